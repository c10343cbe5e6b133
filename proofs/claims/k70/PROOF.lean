import PyProof.Rows.All
import Wide.All
import OpenK.AllK
import Wide.FinOn
import HandS.Base
import HandS.Call
import HandS.List
import HandS.Comp
import HandS.Ends
import HandS.Dict
import HandS.Iter
import HandS.Text
import HandS.Words
import HandS.WordsList
import HandS.WordsDict
import HandS.Wide
import HandS.Zip
import HandS.Flow
import HandS.Flt
import KE.GoesMore
import KE.KDictZip
import PyProof.ReprRoads
import HandS.Walk
import PyProof.TupleOfSeq
import KE.GoesEnum
import HandS.Style
import PyProof.ReprLen
import HandS.IsInst
import HandS.TupAny
import PyProof.EqAt
import PyProof.NeKinds
import HandS.Codes
import HandS.Defaults
import HandS.TupMul
import HandS.FStr
import HandS.StrMore
import HandS.TryOnly
import HandS.Star
import HandS.RaiseMore
import PySem.Challenge.RW_notbothout_k70_written_and_read
set_option Elab.async false
set_option linter.all false
set_option maxRecDepth 100000
/-! Defs whose callers are known to show nothing (guards empty): what repr wants. -/
namespace NB
open PySem PySem.Spec PyProof.Rows L2

/-- a def's promise, wherever nothing is being shown around it -/
structure FnG (P : Program) (w : World) (K : PySem.W.Frag) (mg : Str → Option Value) (base : Heap) (k : Nat) (f : Addr) (fd : FuncData) (ps : List Str) (sp : Sp) : Prop where
  len : ∀ vs H Q E, sp vs H Q E → vs.length = ps.length
  go : ∀ (A : Around) (out : List Env) (s : Shared) (H : Hp) (ar : Args) (us : List Value) (vs : List V) (Q : VK) (E : XK),
    A.guards = some [] → Room k A → Env0 P w K mg base A out s H → BindsTo s fd ar (ps.zip us) → Vals vs us → sp vs H Q E →
    codeAny (model P w) A (.call (.ref f) ar) (CR CX0 out P w H s Q E) s

section
variable {P : Program} {w : World} {K : PySem.W.Frag} {mg : Str → Option Value} {base : Heap}

theorem FnG.of {k : Nat} {f : Addr} {fd : FuncData} {ps : List Str} {sp : Sp} (F : FnOk P w K mg base CX0 k f fd ps sp) : FnG P w K mg base k f fd ps sp :=
  ⟨F.len, fun A out s H ar us vs Q E _ => F.run A out s H ar us vs Q E⟩

theorem fnG {x qual : Str} {st : Stmt} {f : Addr} {fd : FuncData} {N ps : List Str} {k : Nat} {sp : Sp} (F : Fun K x qual st f fd)
    (S : FnScope N ps (defScope st)) (len : ∀ vs H Q E, sp vs H Q E → vs.length = ps.length)
    (body : ∀ (c : Value) (A : Around) (out : List Env) (s : Shared) (H : Hp) (vs : List V) (Q : VK) (E : XK),
      A.guards = some [] → Room k (A.deeper (envOfC qual (defScope st) s.heap.objs.size f c)) → sp vs H Q E →
      ∃ t, PSs (cxOf CX0 P w K mg base N qual (defScope st) f c A out s H E).nox (defBody st) t ∧
        t { nx := fun _ H' => Q .non H', rt := Q } (start N vs) H) :
    FnG P w K mg base (k + 1) f fd ps sp := by
  obtain ⟨oc, od, kV, doc, pm, an, c, ct, osl, rfl, lk, hc⟩ := F.ex
  refine ⟨len, fun A out s H ar us vs Q E hg hr e hb r h => ?_⟩
  have stays : ∀ b o, base.get? b = some o → s.heap.get? b = some o := fun b o q => (e.bs b o q).1
  have inH : K.In s.heap := e.mod.kin.keeps stays
  have noLim : s.heap.NoLimit := e.mod.nolimit.keeps stays
  have kinds : ∀ y ∈ ps.zip us, (defScope st).names.lookup y.1 = some .local ∨
      ((defScope st).names.lookup y.1 = some .cell ∧ ((cellsFrom (s.heap.objs.size + 1) (defScope st).names []).lookup y.1).isSome = true) := by
    intro y hy
    obtain ⟨n, v⟩ := y
    cases S.par n (List.of_mem_zip hy).1 with
    | inl q => exact .inl q
    | inr q => exact .inr ⟨q, PySem.W.cellsFrom_some _ _ _ (.inl q)⟩
  refine codeAny_call_function hr.depth (inH _ _ lk) rfl S.co S.gen rfl (PySem.W.codeRec_of inH hc) (hb _ _ _ _ ?_)
  refine wpAny_newFunctionEnv_cells S.kind kinds ?_
  rintro env rfl s1 x
  refine ⟨noLim.keeps x.toInCall.keep, codeAny_func ?_⟩
  obtain ⟨t, ht, hq⟩ := body c A out s H vs Q E hg (hr.deeper _) h
  have I := inv_start (CX := CX0) (E := E) S hr.hd e (len _ _ _ _ h) r x
  refine wpAny_mono (ht.nox.run [] s1 (start N vs) H _ I hq) ?_ fun _ _ z => z
  intro fl s' z
  cases fl with
  | ret u =>
    obtain ⟨v, σ', H', J, rv, q⟩ := z
    exact ⟨v, H', J.os, J.bare, J.base, J.hok, rv, q⟩
  | next =>
    obtain ⟨σ', H', J, q⟩ := z
    exact ⟨V.non, H', J.os, J.bare, J.base, J.hok, rfl, q⟩
  | brk => exact False.elim z.choose_spec.choose_spec.2
  | cont => exact False.elim z.choose_spec.choose_spec.2
end

section
variable {X : Cx} {k : Nat} {f : Addr} {fd : FuncData} {ps : List Str} {sp : Sp} {x : Str} {p pos : Pos} {e : Expr} {es : List Expr} {t : TA}
/-- f(..) of such a def, all arguments written -/
theorem pe_callG (hG : X.A.guards = some []) (F : FnG X.prog X.w X.K X.mg X.base k f fd ps sp) (hr : Room k X.A) (hg : Gl X x) (hm : X.mg x = some (.ref f))
    (hk : PySem.W.keepIn X.K (.ref f) = true) (hb : Binds X.K fd ps []) (ha : PA X (e :: es) t) (hdb : (x == ("__debug__" : Str)) = false := by decide)
    (he : starEach (e :: es) X.env = (false, eval e X.env) :: starEach es X.env := by rfl) (hpl : (backTo pos (starEach es X.env)).any (·.1) = false := by rfl) :
    PE X (.Call (.Name x p) (e :: es) [] pos) (tCall sp [] E0 t) := by
  refine ⟨fun pins s σ H Q I h => wpAny_Call_Name_kw (ld_glob I hg hm ?_ hdb)⟩
  refine PySem.W.callWith_K (h₀ := X.base) I.ok.mod.kin hk (thn (ha.run pos pins s σ H _ I h) ?_) he hpl
  rintro us s1 ⟨vs, H1, I1, r, q⟩
  refine ⟨I1.kIn, wpAny_call ?_⟩
  have q2 : sp vs H1 Q E0 := by
    have q' : sp (vs ++ []) H1 Q E0 := q
    rwa [List.append_nil] at q'
  have ln : us.length = ps.length := r.length.symm.trans (F.len _ _ _ _ q2)
  have bnd : BindsTo s1 fd ⟨us, []⟩ (ps.zip us) := by
    have b := hb s1 us I1.kIn (by rw [List.append_nil]; exact ln)
    rwa [List.append_nil] at b
  refine codeAny_mono (F.go X.A X.stack s1 H1 ⟨us, []⟩ us vs Q E0 hG hr I1.env0 bnd r q2) ?_
  intro rs s' z
  cases rs with
  | error e => exact False.elim z
  | ok fl =>
    cases fl with
    | ret u => exact I1.after z
    | next => exact False.elim z
    | brk => exact False.elim z
    | cont => exact False.elim z
end

section
variable {X : Cx}
/-- what repr asks of data -/
structure Showable (d : PyData) : Prop where
  sh : d.showable = true
  nd : d.hasDict = false
  dp : d.depth ≤ 60
  sz : d.shown.length ≤ sizeLine
/-- repr(x), x a list or a tuple of data -/
theorem call_reprD (hG : X.A.guards = some []) (hu : X.A.units + 64 < cLine) : CallR X (.builtin "repr") (fun xs H Q => ∃ a d, xs = [.ref a] ∧ Dp X.K H (.ref a) d ∧ Showable d ∧ Q (.str d.shown) H) := by
  intro pins s σ H xs us Q I r h
  obtain ⟨a, d, rfl, hd, S, q⟩ := h
  obtain ⟨u, rfl, ru⟩ := vals1 r
  obtain ⟨as, rd⟩ := Dp.reads I d _ u hd ru
  cases ru
  have hn := S.dp
  exact repr_of_reads' rd S.sh (PyData.noDict_hsm S.nd) hG (by omega) (fun _ _ z => z) (fun h' u tk hk => ⟨.str _, H, I.kept hk, ⟨_, rfl⟩, q⟩) S.sz
end
end NB

set_option Elab.async false
set_option linter.all false
set_option maxRecDepth 100000
set_option maxHeartbeats 1000000
/-! zip of three tuples of one length, its turns given to one name or to three. -/
namespace NB
open PySem PySem.Spec PyProof.Rows L2
open PySem.Sem (wp)

/-- a zip as it stands between two turns: a is None or the tuple given out last -/
abbrev Zat (h : Heap) (z ti to : Addr) (a b : Value) : Prop :=
  h.get? z = some { cls := .type "zip", dict := none, data := .fields #[a, b, .bool false, .ref ti, .ref to], slots := #[] }
def Out (a : Value) : Prop := a = .none ∨ ∃ T : Addr, a = rawInt T

section
variable {prog : Program} {w : World} {A : Around} {E : Value → Shared → Prop} {s : Shared} {z ti to i1 i2 i3 l1 l2 l3 : Addr} {a a1 a2 a3 : Value} {f : Bool} {xs ys zs : Array Value} {i : Nat}

theorem freeOr {Q : Bool → Shared → Prop} (ho : Out a) (hz : Zat s.heap z ti to a (.bool f))
    (h : ∀ (b : Bool) (h' : Heap) (g : Bool), Zat h' z ti to a (.bool g) → Heap.SameBut z s.heap h' → Q b { s with heap := h' }) :
    wpAny (model prog w) A (Builtin.SmallTypes.ownedTupleIsFree (.ref z)) Q E s := by
  unfold Builtin.SmallTypes.ownedTupleIsFree
  refine wpAny_bind (wpAny_field hz rfl (x := a) rfl ?_)
  rcases ho with e | ⟨T, e⟩
  · subst e
    exact wpAny_pure (h true s.heap f hz (Heap.SameBut.refl _ _))
  · subst e
    show wpAny _ _ (loadIfAlive ((T : Int).toNat) >>= _) _ _ _
    rw [Int.toNat_natCast]
    refine wpAny_bind ?_
    cases e : s.heap.get? T with
    | none =>
      have key : wpAny (model prog w) A (loadIfAlive T) (fun r s' => r = none ∧ s' = s) E s := fun _ _ _ => ⟨e, rfl⟩
      refine thn key fun r s' q => ?_
      obtain ⟨rfl, rfl⟩ := q
      exact wpAny_pure (h true _ f hz (Heap.SameBut.refl _ _))
    | some o =>
      refine PySem.W.kdx_alive e ?_
      simp only [Option.isNone_some, Bool.false_eq_true, if_false]
      refine wpAny_bind (wpAny_field hz rfl (x := .bool f) rfl ?_)
      cases f with
      | true =>
        rw [if_neg (show ¬ ((Value.bool true != Value.bool true) = true) by decide)]
        exact wpAny_pure (h false s.heap true hz (Heap.SameBut.refl _ _))
      | false =>
        rw [if_pos (show (Value.bool false != Value.bool true) = true by decide)]
        exact wpAny_bind (wpAny_setField_rec hz (by simp) fun h1 z1 s1 => wpAny_pure (h false h1 true z1 s1))

/-- the three iterators over their tuples at turn i, apart from the zip's own cells -/
abbrev St3 (h : Heap) (i1 i2 i3 l1 l2 l3 : Addr) (xs ys zs : Array Value) (i : Nat) : Prop :=
  (h.IsTupleIter i1 l1 i ∧ h.IsTuple l1 xs) ∧ (h.IsTupleIter i2 l2 i ∧ h.IsTuple l2 ys) ∧ (h.IsTupleIter i3 l3 i ∧ h.IsTuple l3 zs)

theorem keepIt {h h' : Heap} {it l : Addr} {k : Nat} {vs : Array Value} (st : h.IsTupleIter it l k ∧ h.IsTuple l vs) {x : Addr} (hs : Heap.SameBut x h h') (n1 : it ≠ x) (n2 : l ≠ x) : h'.IsTupleIter it l k ∧ h'.IsTuple l vs :=
  ⟨st.1.extBut hs.extBut n1, st.2.extBut hs.extBut n2⟩

structure Far3 (z ti to i1 i2 i3 l1 l2 l3 : Addr) : Prop where
  tiz : ti ≠ z
  toz : to ≠ z
  tito : ti ≠ to
  ti1 : ti ≠ i1
  ti2 : ti ≠ i2
  ti3 : ti ≠ i3
  to1 : to ≠ i1
  to2 : to ≠ i2
  to3 : to ≠ i3
  z1 : i1 ≠ z
  z2 : i2 ≠ z
  z3 : i3 ≠ z
  n12 : i1 ≠ i2
  n13 : i1 ≠ i3
  n23 : i2 ≠ i3
  l1n : l1 ≠ z ∧ l1 ≠ to ∧ l1 ≠ i1 ∧ l1 ≠ i2 ∧ l1 ≠ i3
  l2n : l2 ≠ z ∧ l2 ≠ to ∧ l2 ≠ i1 ∧ l2 ≠ i2 ∧ l2 ≠ i3
  l3n : l3 ≠ z ∧ l3 ≠ to ∧ l3 ≠ i1 ∧ l3 ≠ i2 ∧ l3 ≠ i3

theorem drawT {it l : Addr} {k : Nat} {vs : Array Value} {x : Value} {Q : Value → Shared → Prop} (st : s.heap.IsTupleIter it l k ∧ s.heap.IsTuple l vs) (ne : l ≠ it) (hx : vs[k]? = some x)
    (h : ∀ h', (h'.IsTupleIter it l (k + 1) ∧ h'.IsTuple l vs) → Heap.SameBut it s.heap h' → Q x { s with heap := h' }) :
    wpAny (model prog w) A (Builtin.SmallTypes.nextOf (.ref it)) Q E s :=
  RZ.nextOf_tuple_item st.1 st.2 hx fun h' q1 q2 => h h' ⟨q1, st.2.extBut q2.extBut ne⟩ q2

theorem next3 {x1 x2 x3 : Value} {Q : Value → Shared → Prop} (D : Far3 z ti to i1 i2 i3 l1 l2 l3) (ho : Out a) (hz : Zat s.heap z ti to a (.bool f))
    (hI : IsTupOf3 s.heap ti (.ref i1) (.ref i2) (.ref i3)) (hO : IsTupOf3 s.heap to a1 a2 a3) (st : St3 s.heap i1 i2 i3 l1 l2 l3 xs ys zs i)
    (hx : xs[i]? = some x1) (hy : ys[i]? = some x2) (hw : zs[i]? = some x3)
    (hQ : ∀ (h' : Heap) (a' : Value) (g : Bool) (b1 b2 b3 : Value), Out a' → Zat h' z ti to a' (.bool g) → IsTupOf3 h' to b1 b2 b3 → St3 h' i1 i2 i3 l1 l2 l3 xs ys zs (i + 1) → IsTupOf3 h' s.heap.objs.size x1 x2 x3 → h'.objs.size = s.heap.objs.size + 1 →
      (∀ c o, c ≠ z → c ≠ to → c ≠ i1 → c ≠ i2 → c ≠ i3 → s.heap.get? c = some o → h'.get? c = some o) → Q (.ref s.heap.objs.size) { s with heap := h' }) :
    wpAny (model prog w) A (Builtin.«zip.__next__» ⟨[.ref z], []⟩) (fun fin s' => ∃ v, fin = .done (.ret v) ∧ Q v s') E s := by
  obtain ⟨hp, gg, dd, tk, os⟩ := s
  show wpAny _ _ (field (.ref z) 2 >>= _) _ _ _
  refine wpAny_bind (wpAny_field hz rfl (x := .bool false) rfl ?_)
  show wpAny _ _ (field (.ref z) 3 >>= _) _ _ _
  refine wpAny_bind (wpAny_field hz rfl (x := .ref ti) rfl ?_)
  refine wpAny_bind (wpAny_seqItems hI rfl ?_)
  show wpAny _ _ (Builtin.SmallTypes.ownedTupleIsFree (.ref z) >>= _) _ _ _
  refine wpAny_bind (freeOr ho hz fun b h1 f1 hz1 hs1 => ?_)
  replace hs1 : Heap.SameBut z hp h1 := hs1
  obtain ⟨sa, sb, sc⟩ := st
  have sa1 := keepIt sa hs1 D.z1 D.l1n.1
  have sb1 := keepIt sb hs1 D.z2 D.l2n.1
  have sc1 := keepIt sc hs1 D.z3 D.l3n.1
  have hO1 : IsTupOf3 h1 to a1 a2 a3 := hs1.extBut _ _ D.toz hO
  cases b with
  | false =>
    simp only [Bool.false_eq_true, if_false]
    refine wpAny_bind ?_
    rw [← Array.forIn_toList]
    simp only [List.forIn_cons, List.forIn_nil]
    refine wpAny_bind (wpAny_bind (wpAny_holding ?_))
    show wpAny _ _ (Builtin.SmallTypes.nextOf (.ref i1) >>= _) _ _ ⟨h1, gg, dd, tk, os⟩
    refine wpAny_bind (drawT (s := ⟨h1, gg, dd, tk, os⟩) sa1 D.l1n.2.2.1 hx fun h2 sa2 hs2 => wpAny_pure (wpAny_pure ?_))
    replace hs2 : Heap.SameBut i1 h1 h2 := hs2
    have sb2 := keepIt sb1 hs2 D.n12.symm D.l2n.2.2.1
    have sc2 := keepIt sc1 hs2 D.n13.symm D.l3n.2.2.1
    refine wpAny_bind (wpAny_bind (wpAny_holding ?_))
    show wpAny _ _ (Builtin.SmallTypes.nextOf (.ref i2) >>= _) _ _ ⟨h2, gg, dd, tk, os⟩
    refine wpAny_bind (drawT (s := ⟨h2, gg, dd, tk, os⟩) sb2 D.l2n.2.2.2.1 hy fun h3 sb3 hs3 => wpAny_pure (wpAny_pure ?_))
    replace hs3 : Heap.SameBut i2 h2 h3 := hs3
    have sa3 := keepIt sa2 hs3 D.n12 D.l1n.2.2.2.1
    have sc3 := keepIt sc2 hs3 D.n23.symm D.l3n.2.2.2.1
    refine wpAny_bind (wpAny_bind (wpAny_holding ?_))
    show wpAny _ _ (Builtin.SmallTypes.nextOf (.ref i3) >>= _) _ _ ⟨h3, gg, dd, tk, os⟩
    refine wpAny_bind (drawT (s := ⟨h3, gg, dd, tk, os⟩) sc3 D.l3n.2.2.2.2 hw fun h4 sc4 hs4 => wpAny_pure (wpAny_pure (wpAny_pure ?_)))
    replace hs4 : Heap.SameBut i3 h3 h4 := hs4
    have sa4 := keepIt sa3 hs4 D.n13 D.l1n.2.2.2.2
    have sb4 := keepIt sb3 hs4 D.n23 D.l2n.2.2.2.2
    show wpAny _ _ (newTuple [x1, x2, x3] >>= _) _ _ ⟨h4, gg, dd, tk, os⟩
    refine wpAny_bind (wpAny_newTuple (wpAny_pure ⟨_, rfl, ?_⟩))
    have sz : h4.objs.size = hp.objs.size := by rw [hs4.1, hs3.1, hs2.1, hs1.1]
    have kk : ∀ c o, c ≠ z → c ≠ i1 → c ≠ i2 → c ≠ i3 → hp.get? c = some o → h4.get? c = some o := fun c o c0 c1 c2 c3 e =>
      hs4.extBut _ _ c3 (hs3.extBut _ _ c2 (hs2.extBut _ _ c1 (hs1.extBut _ _ c0 e)))
    have hz4 : Zat h4 z ti to a (.bool f1) := hs4.extBut _ _ D.z3.symm (hs3.extBut _ _ D.z2.symm (hs2.extBut _ _ D.z1.symm hz1))
    have hO4 : IsTupOf3 h4 to a1 a2 a3 := kk _ _ D.toz D.to1 D.to2 D.to3 hO
    have up : ∀ c o, h4.get? c = some o → (h4.push { cls := .type "tuple", data := .seq #[x1, x2, x3] }).get? c = some o := fun c o e => Heap.get?_push_of_some _ e
    have nw : IsTupOf3 (h4.push { cls := .type "tuple", data := .seq #[x1, x2, x3] }) h4.objs.size x1 x2 x3 := Heap.get?_push_size _ rfl
    have zw : (h4.push { cls := .type "tuple", data := .seq #[x1, x2, x3] }).objs.size = h4.objs.size + 1 := Heap.size_push ..
    show Q (.ref h4.objs.size) _
    rw [sz] at nw zw ⊢
    exact hQ _ a f1 a1 a2 a3 ho (up _ _ hz4) (up _ _ hO4)
      ⟨⟨sa4.1.at fun o e => up _ o e, sa4.2.push _⟩, ⟨sb4.1.at fun o e => up _ o e, sb4.2.push _⟩, ⟨sc4.1.at fun o e => up _ o e, sc4.2.push _⟩⟩ nw zw
      fun c o c0 _ c1 c2 c3 e => up c o (kk c o c0 c1 c2 c3 e)
  | true =>
    simp only [if_true]
    refine wpAny_bind (wpAny_rule ?_)
    refine wpAny_bind (wpAny_field (s := ⟨h1, gg, dd, tk, os⟩) hz1 rfl (x := .ref to) rfl ?_)
    refine wpAny_bind (wpAny_setField_rec (s := ⟨h1, gg, dd, tk, os⟩) hz1 (by simp) fun g0 z0 s0 => ?_)
    replace z0 : Zat g0 z ti to .ellipsis (.bool f1) := z0
    replace s0 : Heap.SameBut z h1 g0 := s0
    have ta0 := keepIt sa1 s0 D.z1 D.l1n.1
    have tb0 := keepIt sb1 s0 D.z2 D.l2n.1
    have tc0 := keepIt sc1 s0 D.z3 D.l3n.1
    have o0 : IsTupOf3 g0 to a1 a2 a3 := s0.extBut _ _ D.toz hO1
    refine wpAny_bind ?_
    simp only [List.zipIdx_cons, List.zipIdx_nil, List.forIn_cons, List.forIn_nil]
    refine wpAny_bind (wpAny_bind (wpAny_onRaise ?_))
    show wpAny _ _ (Builtin.SmallTypes.nextOf (.ref i1) >>= _) _ _ ⟨g0, gg, dd, tk, os⟩
    refine wpAny_bind (drawT (s := ⟨g0, gg, dd, tk, os⟩) ta0 D.l1n.2.2.1 hx fun p1 ta1 s1 => wpAny_pure ?_)
    replace s1 : Heap.SameBut i1 g0 p1 := s1
    have o1 : IsTupOf3 p1 to a1 a2 a3 := s1.extBut _ _ D.to1 o0
    refine wpAny_bind (wpAny_seqItems (s := ⟨p1, gg, dd, tk, os⟩) o1 rfl ?_)
    refine wpAny_bind (updateSeq_IsTupOf3 (s := ⟨p1, gg, dd, tk, os⟩) o1 fun q1 u1 r1 => wpAny_bind (wpAny_letGo (wpAny_pure ?_)))
    replace u1 : IsTupOf3 q1 to x1 a2 a3 := u1
    replace r1 : Heap.SameBut to p1 q1 := r1
    have ta2 := keepIt ta1 r1 D.to1.symm D.l1n.2.1
    have tb2 := keepIt (keepIt tb0 s1 D.n12.symm D.l2n.2.2.1) r1 D.to2.symm D.l2n.2.1
    have tc2 := keepIt (keepIt tc0 s1 D.n13.symm D.l3n.2.2.1) r1 D.to3.symm D.l3n.2.1
    refine wpAny_bind (wpAny_bind (wpAny_onRaise ?_))
    show wpAny _ _ (Builtin.SmallTypes.nextOf (.ref i2) >>= _) _ _ ⟨q1, gg, dd, tk, os⟩
    refine wpAny_bind (drawT (s := ⟨q1, gg, dd, tk, os⟩) tb2 D.l2n.2.2.2.1 hy fun p2 tb3 s2 => wpAny_pure ?_)
    replace s2 : Heap.SameBut i2 q1 p2 := s2
    have o2 : IsTupOf3 p2 to x1 a2 a3 := s2.extBut _ _ D.to2 u1
    refine wpAny_bind (wpAny_seqItems (s := ⟨p2, gg, dd, tk, os⟩) o2 rfl ?_)
    refine wpAny_bind (updateSeq_IsTupOf3 (s := ⟨p2, gg, dd, tk, os⟩) o2 fun q2 u2 r2 => wpAny_bind (wpAny_letGo (wpAny_pure ?_)))
    replace u2 : IsTupOf3 q2 to x1 x2 a3 := u2
    replace r2 : Heap.SameBut to p2 q2 := r2
    have ta4 := keepIt (keepIt ta2 s2 D.n12 D.l1n.2.2.2.1) r2 D.to1.symm D.l1n.2.1
    have tb4 := keepIt tb3 r2 D.to2.symm D.l2n.2.1
    have tc4 := keepIt (keepIt tc2 s2 D.n23.symm D.l3n.2.2.2.1) r2 D.to3.symm D.l3n.2.1
    refine wpAny_bind (wpAny_bind (wpAny_onRaise ?_))
    show wpAny _ _ (Builtin.SmallTypes.nextOf (.ref i3) >>= _) _ _ ⟨q2, gg, dd, tk, os⟩
    refine wpAny_bind (drawT (s := ⟨q2, gg, dd, tk, os⟩) tc4 D.l3n.2.2.2.2 hw fun p3 tc5 s3 => wpAny_pure ?_)
    replace s3 : Heap.SameBut i3 q2 p3 := s3
    have o3 : IsTupOf3 p3 to x1 x2 a3 := s3.extBut _ _ D.to3 u2
    refine wpAny_bind (wpAny_seqItems (s := ⟨p3, gg, dd, tk, os⟩) o3 rfl ?_)
    refine wpAny_bind (updateSeq_IsTupOf3 (s := ⟨p3, gg, dd, tk, os⟩) o3 fun q3 u3 r3 => wpAny_bind (wpAny_letGo (wpAny_pure (wpAny_pure ?_))))
    replace u3 : IsTupOf3 q3 to x1 x2 x3 := u3
    replace r3 : Heap.SameBut to p3 q3 := r3
    have ta6 := keepIt (keepIt ta4 s3 D.n13 D.l1n.2.2.2.2) r3 D.to1.symm D.l1n.2.1
    have tb6 := keepIt (keepIt tb4 s3 D.n23 D.l2n.2.2.2.2) r3 D.to2.symm D.l2n.2.1
    have tc6 := keepIt tc5 r3 D.to3.symm D.l3n.2.1
    refine wpAny_bind (wpAny_seqItems (s := ⟨q3, gg, dd, tk, os⟩) u3 rfl (wpAny_bind (wpAny_newTuple ?_)))
    have sz : q3.objs.size = hp.objs.size := by rw [r3.1, s3.1, r2.1, s2.1, r1.1, s1.1, s0.1, hs1.1]
    have hz3 : Zat q3 z ti to .ellipsis (.bool f1) := r3.extBut _ _ D.toz.symm (s3.extBut _ _ D.z3.symm (r2.extBut _ _ D.toz.symm (s2.extBut _ _ D.z2.symm (r1.extBut _ _ D.toz.symm (s1.extBut _ _ D.z1.symm z0)))))
    have kk : ∀ c o, c ≠ z → c ≠ to → c ≠ i1 → c ≠ i2 → c ≠ i3 → hp.get? c = some o → q3.get? c = some o := fun c o c0 ct c1 c2 c3 e =>
      r3.extBut _ _ ct (s3.extBut _ _ c3 (r2.extBut _ _ ct (s2.extBut _ _ c2 (r1.extBut _ _ ct (s1.extBut _ _ c1 (s0.extBut _ _ c0 (hs1.extBut _ _ c0 e)))))))
    have zlt : z < q3.objs.size := Heap.lt_size hz3
    show wpAny _ _ (Builtin.SmallTypes.ownedTupleHandOut (.ref z) (.ref q3.objs.size) >>= _) _ _ ⟨q3.push { cls := .type "tuple", data := .seq #[x1, x2, x3] }, gg, dd, tk, os⟩
    refine wpAny_bind ?_
    unfold Builtin.SmallTypes.ownedTupleHandOut
    have z5 : Zat (q3.push { cls := .type "tuple", data := .seq #[x1, x2, x3] }) z ti to .ellipsis (.bool f1) := Heap.get?_push_of_some _ hz3
    refine wpAny_bind (wpAny_setField_rec z5 (by simp) fun h7 z7 s7 => ?_)
    replace z7 : Zat h7 z ti to (rawInt q3.objs.size) (.bool f1) := z7
    replace s7 : Heap.SameBut z (q3.push { cls := .type "tuple", data := .seq #[x1, x2, x3] }) h7 := s7
    refine wpAny_setField_rec z7 (by simp) fun h8 z8 s8 => ?_
    replace z8 : Zat h8 z ti to (rawInt q3.objs.size) (.bool false) := z8
    replace s8 : Heap.SameBut z h7 h8 := s8
    have up : ∀ c o, c ≠ z → q3.get? c = some o → h8.get? c = some o := fun c o c1 e => s8.extBut _ _ c1 (s7.extBut _ _ c1 (Heap.get?_push_of_some _ e))
    have nw : IsTupOf3 h8 q3.objs.size x1 x2 x3 := s8.extBut _ _ (Nat.ne_of_gt zlt) (s7.extBut _ _ (Nat.ne_of_gt zlt) (Heap.get?_push_size _ rfl))
    have zw : h8.objs.size = q3.objs.size + 1 := by rw [s8.1, s7.1, Heap.size_push]
    have fin : ∀ {it l : Addr} {k : Nat} {vs : Array Value}, (q3.IsTupleIter it l k ∧ q3.IsTuple l vs) → it ≠ z → l ≠ z → h8.IsTupleIter it l k ∧ h8.IsTuple l vs := fun {it l k vs} st n1 n2 =>
      keepIt (keepIt ⟨st.1.at fun o e => Heap.get?_push_of_some _ e, st.2.push _⟩ s7 n1 n2) s8 n1 n2
    refine wpAny_pure ⟨_, rfl, ?_⟩
    show Q (.ref q3.objs.size) _
    rw [sz] at nw zw z8 ⊢
    exact hQ h8 _ false x1 x2 x3 (.inr ⟨_, rfl⟩) z8 (up _ _ D.toz u3) ⟨fin ta6 D.z1 D.l1n.1, fin tb6 D.z2 D.l2n.1, fin tc6 D.z3 D.l3n.1⟩ nw zw
      fun c o c0 ct c1 c2 c3 e => up c o c0 (kk c o c0 ct c1 c2 c3 e)

theorem end3 {Q : Fin → Shared → Prop} (hh : A.handled = none) (D : Far3 z ti to i1 i2 i3 l1 l2 l3) (ho : Out a) (hz : Zat s.heap z ti to a (.bool f))
    (hI : IsTupOf3 s.heap ti (.ref i1) (.ref i2) (.ref i3)) (st : s.heap.IsTupleIter i1 l1 i ∧ s.heap.IsTuple l1 xs) (hx : xs[i]? = none)
    (hE : ∀ h' e, (∀ c o, c ≠ z → c ≠ to → c ≠ i1 → c ≠ i2 → c ≠ i3 → s.heap.get? c = some o → h'.get? c = some o) → (∃ o, h'.get? e = some o ∧ o.cls = .type "StopIteration") → E (.ref e) { s with heap := h' }) :
    wpAny (model prog w) A (Builtin.«zip.__next__» ⟨[.ref z], []⟩) Q E s := by
  obtain ⟨hp, gg, dd, tk, os⟩ := s
  show wpAny _ _ (field (.ref z) 2 >>= _) _ _ _
  refine wpAny_bind (wpAny_field hz rfl (x := .bool false) rfl ?_)
  show wpAny _ _ (field (.ref z) 3 >>= _) _ _ _
  refine wpAny_bind (wpAny_field hz rfl (x := .ref ti) rfl ?_)
  refine wpAny_bind (wpAny_seqItems hI rfl ?_)
  show wpAny _ _ (Builtin.SmallTypes.ownedTupleIsFree (.ref z) >>= _) _ _ _
  refine wpAny_bind (freeOr ho hz fun b h1 f1 hz1 hs1 => ?_)
  replace hs1 : Heap.SameBut z hp h1 := hs1
  have sa1 := keepIt st hs1 D.z1 D.l1n.1
  cases b with
  | false =>
    simp only [Bool.false_eq_true, if_false]
    refine wpAny_bind ?_
    rw [← Array.forIn_toList]
    simp only [List.forIn_cons, List.forIn_nil]
    refine wpAny_bind (wpAny_bind (wpAny_holding ?_))
    show wpAny _ _ (Builtin.SmallTypes.nextOf (.ref i1) >>= _) _ _ ⟨h1, gg, dd, tk, os⟩
    refine wpAny_bind (RZ.nextOf_tuple_end (s := ⟨h1, gg, dd, tk, os⟩) hh sa1.1 sa1.2 hx fun h2 e hs2 he => ?_)
    exact hE h2 e (fun c o c0 _ c1 _ _ q => hs2 _ _ c1 (hs1.extBut _ _ c0 q)) he
  | true =>
    simp only [if_true]
    refine wpAny_bind (wpAny_rule ?_)
    refine wpAny_bind (wpAny_field (s := ⟨h1, gg, dd, tk, os⟩) hz1 rfl (x := .ref to) rfl ?_)
    refine wpAny_bind (wpAny_setField_rec (s := ⟨h1, gg, dd, tk, os⟩) hz1 (by simp) fun g0 z0 s0 => ?_)
    replace z0 : Zat g0 z ti to .ellipsis (.bool f1) := z0
    replace s0 : Heap.SameBut z h1 g0 := s0
    have ta0 := keepIt sa1 s0 D.z1 D.l1n.1
    refine wpAny_bind ?_
    simp only [List.zipIdx_cons, List.zipIdx_nil, List.forIn_cons, List.forIn_nil]
    refine wpAny_bind (wpAny_bind (wpAny_onRaise ?_))
    show wpAny _ _ (Builtin.SmallTypes.nextOf (.ref i1) >>= _) _ _ ⟨g0, gg, dd, tk, os⟩
    refine wpAny_bind (RZ.nextOf_tuple_end (s := ⟨g0, gg, dd, tk, os⟩) hh ta0.1 ta0.2 hx fun h2 e hs2 he => ?_)
    obtain ⟨oe, hoe, hce⟩ := he
    replace hs2 : Heap.ExtBut i1 g0 h2 := hs2
    replace hoe : h2.get? e = some oe := hoe
    have z2 : Zat h2 z ti to .ellipsis (.bool f1) := hs2 _ _ D.z1.symm z0
    have ne : e ≠ z := fun q => by subst q; rw [z2] at hoe; cases hoe; simp at hce
    refine wpAny_setField_rec (s := ⟨h2, gg, dd, tk, os⟩) z2 (by simp) fun h3 _ s3 => ?_
    replace s3 : Heap.SameBut z h2 h3 := s3
    exact hE h3 e (fun c o c0 _ c1 _ _ q => s3.extBut _ _ c0 (hs2 _ _ c1 (s0.extBut _ _ c0 (hs1.extBut _ _ c0 q)))) ⟨oe, s3.extBut _ _ ne hoe, hce⟩
end
end NB

set_option Elab.async false
set_option linter.all false
set_option maxRecDepth 100000
set_option maxHeartbeats 1000000
namespace NB
open PySem PySem.Spec PyProof.Rows L2

section
variable {prog : Program} {w : World} {A : Around} {E : Value → Shared → Prop} {s : Shared} {z ti to i1 i2 i3 l1 l2 l3 : Addr} {a a1 a2 a3 : Value} {f : Bool} {xs ys zs : Array Value} {i : Nat}

theorem pyNext3 {x1 x2 x3 : Value} {Q : Option Value → Shared → Prop} (D : Far3 z ti to i1 i2 i3 l1 l2 l3) (ho : Out a) (hz : Zat s.heap z ti to a (.bool f))
    (hI : IsTupOf3 s.heap ti (.ref i1) (.ref i2) (.ref i3)) (hO : IsTupOf3 s.heap to a1 a2 a3) (st : St3 s.heap i1 i2 i3 l1 l2 l3 xs ys zs i)
    (hx : xs[i]? = some x1) (hy : ys[i]? = some x2) (hw : zs[i]? = some x3)
    (hQ : ∀ (h' : Heap) (a' : Value) (g : Bool) (b1 b2 b3 : Value), Out a' → Zat h' z ti to a' (.bool g) → IsTupOf3 h' to b1 b2 b3 → St3 h' i1 i2 i3 l1 l2 l3 xs ys zs (i + 1) → IsTupOf3 h' s.heap.objs.size x1 x2 x3 → h'.objs.size = s.heap.objs.size + 1 →
      (∀ c o, c ≠ z → c ≠ to → c ≠ i1 → c ≠ i2 → c ≠ i3 → s.heap.get? c = some o → h'.get? c = some o) → Q (some (.ref s.heap.objs.size)) { s with heap := h' }) :
    wpAny (model prog w) A (pyNext (.ref z)) Q E s := by
  have ty : s.TypeIs (.ref z) "zip" := ⟨_, hz, rfl⟩
  unfold pyNext
  refine wpAny_bind (wpAny_attempt (wpAny_callSpecial?_slot (name := Str.ofString "__next__") ty F.slot_zip_next ?_))
  refine wpAny_call_entry F.slot_zip_next ty F.entry_zip_next ?_ (F.args_zip_next_1 _)
  exact next3 D ho hz hI hO st hx hy hw fun h' a' g b1 b2 b3 c1 c2 c3 c4 c5 c6 c7 => wpAny_pure (hQ h' a' g b1 b2 b3 c1 c2 c3 c4 c5 c6 c7)

theorem pyEnd3 {Q : Option Value → Shared → Prop} (hh : A.handled = none) (D : Far3 z ti to i1 i2 i3 l1 l2 l3) (ho : Out a) (hz : Zat s.heap z ti to a (.bool f))
    (hI : IsTupOf3 s.heap ti (.ref i1) (.ref i2) (.ref i3)) (st : s.heap.IsTupleIter i1 l1 i ∧ s.heap.IsTuple l1 xs) (hx : xs[i]? = none)
    (hQ : ∀ h', (∀ c o, c ≠ z → c ≠ to → c ≠ i1 → c ≠ i2 → c ≠ i3 → s.heap.get? c = some o → h'.get? c = some o) → Q none { s with heap := h' }) :
    wpAny (model prog w) A (pyNext (.ref z)) Q E s := by
  have ty : s.TypeIs (.ref z) "zip" := ⟨_, hz, rfl⟩
  unfold pyNext
  refine wpAny_bind (wpAny_attempt (wpAny_callSpecial?_slot (name := Str.ofString "__next__") ty F.slot_zip_next ?_))
  refine wpAny_call_entry F.slot_zip_next ty F.entry_zip_next (end3 hh D ho hz hI st hx fun h' e hk he => ?_) (F.args_zip_next_1 _)
  obtain ⟨o, h1, h2⟩ := he
  exact wpAny_bind (wpAny_isInstance (T := "StopIteration") (b := true) ⟨o, h1, h2⟩ isSubtype_stop (wpAny_pure (hQ _ hk)))

/-- ahead of the target's store: a target of several names lets the tuple go -/
theorem letGo3 {tg : Expr} {T : Addr} {Q : Unit → Shared → Prop} (ho : Out a) (hz : Zat s.heap z ti to a (.bool f))
    (h : ∀ (h' : Heap) (a' : Value), Out a' → Zat h' z ti to a' (.bool f) → Heap.SameBut z s.heap h' → Q () { s with heap := h' }) :
    wpAny (model prog w) A (letOwnedTupleGo tg (.ref z) (.ref T)) Q E s := by
  have same : Q () s := h s.heap a ho hz (Heap.SameBut.refl _ _)
  have main : wpAny (model prog w) A (do
      let o ← load z
      match o.cls, o.data with
      | .type n, .fields vs =>
        if ["enumerate", "zip", "dict_itemiterator", "dict_reverseitemiterator", "odict_iterator", "itertools.zip_longest", "itertools.pairwise"].contains n && vs[0]? == some (rawInt T) then
          rule "for.unpacks-the-owned-tuple"
          updateField z 0 .none
      | _, _ => pure ()) Q E s := by
    refine wpAny_bind (wpAny_load hz ?_)
    dsimp only
    split
    · refine wpAny_bind (wpAny_rule ?_)
      show wpAny _ _ (setField (.ref z) 0 .none) Q E s
      exact wpAny_setField_rec hz (by simp) fun h' z' s' => h h' .none (.inl rfl) z' s'
    · exact wpAny_pure same
  unfold letOwnedTupleGo
  cases tg <;> first
    | exact wpAny_pure same
    | exact main

theorem iter3 {Q : Value → Shared → Prop} (hz : Zat s.heap z ti to a (.bool f)) (h : Q (.ref z) s) : wpAny (model prog w) A (pyIter (.ref z)) Q E s := by
  have ty : s.TypeIs (.ref z) "zip" := ⟨_, hz, rfl⟩
  refine wpAny_pyIter_slot ty F.slot_zip_iter (wpAny_call_entry F.slot_zip_iter ty F.entry_zip_iter ?_ (F.args_zip_iter_1 _))
  show wpAny _ _ (ret (.ref z)) _ _ s
  exact wpAny_pure ⟨_, rfl, "zip", _, ty, F.slot_zip_next.lookup, h⟩
end

/-- three tuples of one length, turn by turn: a new tuple of the three items -/
def It3 (K : PySem.W.Frag) (a b c : Addr) : It :=
  ⟨fun i H => ∃ (xs ys zs : List V) (x y z : V), SqT K H a xs ∧ SqT K H b ys ∧ SqT K H c zs ∧ xs[i]? = some x ∧ ys[i]? = some y ∧ zs[i]? = some z,
    fun i H v H' => ∃ T x y z, v = .ref T ∧ H T = none ∧ H' = upd H T (.tup [x, y, z]) ∧ (∀ xs, SqT K H a xs → xs[i]? = some x) ∧ (∀ ys, SqT K H b ys → ys[i]? = some y) ∧ ∀ zs, SqT K H c zs → zs[i]? = some z,
    fun i H => ∃ xs : List V, SqT K H a xs ∧ xs.length ≤ i⟩

theorem turn3 {P : Program} {w : World} {K : PySem.W.Frag} {tg : Expr} {a b c z ti to i1 i2 i3 : Addr} (D : Far3 z ti to i1 i2 i3 a b c) :
    Turn P w K tg (It3 K a b c) [z, ti, to, i1, i2, i3] z (fun i h => (∃ v f, Out v ∧ Zat h z ti to v (.bool f)) ∧ IsTupOf3 h ti (.ref i1) (.ref i2) (.ref i3) ∧ (∃ b1 b2 b3, IsTupOf3 h to b1 b2 b3) ∧
      h.IsTupleIter i1 a i ∧ h.IsTupleIter i2 b i ∧ h.IsTupleIter i3 c i) where
  mem := by simp
  obj := fun i h st q hq => by
    obtain ⟨⟨v, f, _, hz⟩, hI, ⟨b1, b2, b3, hO⟩, ⟨o1, e1, _, d1⟩, ⟨o2, e2, _, d2⟩, ⟨o3, e3, _, d3⟩⟩ := st
    have e' : q = z ∨ q = ti ∨ q = to ∨ q = i1 ∨ q = i2 ∨ q = i3 := by simpa using hq
    rcases e' with r | r | r | r | r | r
    · rw [r]; exact ⟨_, hz, fun v q => nomatch q⟩
    · rw [r]; exact ⟨_, hI, fun v q => nomatch q⟩
    · rw [r]; exact ⟨_, hO, fun v q => nomatch q⟩
    · rw [r]; exact ⟨o1, e1, fun v q => by rw [d1] at q; cases q⟩
    · rw [r]; exact ⟨o2, e2, fun v q => by rw [d2] at q; cases q⟩
    · rw [r]; exact ⟨o3, e3, fun v q => by rw [d3] at q; cases q⟩
  keep := fun i h h' st k => by
    obtain ⟨⟨v, f, ho, hz⟩, hI, ⟨b1, b2, b3, hO⟩, h1, h2, h3⟩ := st
    exact ⟨⟨v, f, ho, k z (by simp) _ hz⟩, k ti (by simp) _ hI, ⟨b1, b2, b3, k to (by simp) _ hO⟩, h1.at fun o q => k i1 (by simp) o q, h2.at fun o q => k i2 (by simp) o q, h3.at fun o q => k i3 (by simp) o q⟩
  item := by
    intro X hP hw hK hc i pins s σ H E I hf st hg
    subst hP hw hK
    obtain ⟨⟨v, f, ho, hz⟩, hI, ⟨b1, b2, b3, hO⟩, h1, h2, h3⟩ := st
    obtain ⟨xs, ys, zs, x, y, u, qx, qy, qu, hx, hy, hu⟩ := hg
    obtain ⟨t1, r1, p1, _⟩ := I.tuple qx
    obtain ⟨t2, r2, p2, _⟩ := I.tuple qy
    obtain ⟨t3, r3, p3, _⟩ := I.tuple qu
    obtain ⟨v1, g1, rv1⟩ := r1.get hx
    obtain ⟨v2, g2, rv2⟩ := r2.get hy
    obtain ⟨v3, g3, rv3⟩ := r3.get hu
    have zl : z < s.heap.objs.size := Heap.lt_size hz
    refine pyNext3 D ho hz hI hO ⟨⟨h1, p1⟩, ⟨h2, p2⟩, ⟨h3, p3⟩⟩ (x1 := v1) (x2 := v2) (x3 := v3) (by simpa using g1) (by simpa using g2) (by simpa using g3) fun h' v' f' c1 c2 c3 ho' hz' hO' st' hT hsz hk => ?_
    refine ⟨_, rfl, letGo3 (s := { s with heap := h' }) ho' hz' fun h'' v'' ho'' hz'' sb => ?_⟩
    have hT2 : h''.get? s.heap.objs.size = some { cls := .type "tuple", data := .seq #[v1, v2, v3] } := (sb.2 _ (Nat.ne_of_gt zl)).trans hT
    have new : ObjOk X.prog X.w (upd H s.heap.objs.size (.tup [x, y, u])) h'' s.heap.objs.size (.tup [x, y, u]) :=
      ⟨by show 3 ≤ sizeLine; decide, [v1, v2, v3], .cons rv1 (.cons rv2 (.cons rv3 .nil)), ⟨_, hT2, rfl, _, rfl⟩⟩
    have I1 : Inv X pins σ (upd H s.heap.objs.size (.tup [x, y, u])) { s with heap := h'' } :=
      I.turnedNew (t' := s.toks) (ch := [z, ti, to, i1, i2, i3]) (fun q o hb e => (sb.2 q (fun q' => hb (by simp [q']))).trans
        (hk q o (fun q' => hb (by simp [q'])) (fun q' => hb (by simp [q'])) (fun q' => hb (by simp [q'])) (fun q' => hb (by simp [q'])) (fun q' => hb (by simp [q'])) e)) hf (Nat.le_refl _) new
    refine ⟨.ref s.heap.objs.size, _, I1, rfl, ⟨_, x, y, u, rfl, I.hok.fresh (Nat.le_refl _), rfl, fun l hl => by rw [I.tuple_inj hl qx]; exact hx, fun l hl => by rw [I.tuple_inj hl qy]; exact hy, fun l hl => by rw [I.tuple_inj hl qu]; exact hu⟩,
      ⟨⟨v'', f', ho'', hz''⟩, ?_, ⟨c1, c2, c3, (sb.2 _ D.toz).trans hO'⟩, st'.1.1.at fun o q => (sb.2 _ D.z1).trans q, st'.2.1.1.at fun o q => (sb.2 _ D.z2).trans q, st'.2.2.1.at fun o q => (sb.2 _ D.z3).trans q⟩, fun q hq => ?_⟩
    · exact (sb.2 _ D.tiz).trans (hk _ _ D.tiz D.tito D.ti1 D.ti2 D.ti3 hI)
    · have lt : q < s.heap.objs.size := by
        have e' : q = z ∨ q = ti ∨ q = to ∨ q = i1 ∨ q = i2 ∨ q = i3 := by simpa using hq
        rcases e' with r | r | r | r | r | r
        · rw [r]; exact zl
        · rw [r]; exact Heap.lt_size hI
        · rw [r]; exact Heap.lt_size hO
        · rw [r]; obtain ⟨_, e1, _⟩ := h1; exact Heap.lt_size e1
        · rw [r]; obtain ⟨_, e1, _⟩ := h2; exact Heap.lt_size e1
        · rw [r]; obtain ⟨_, e1, _⟩ := h3; exact Heap.lt_size e1
      rw [upd_ne (Nat.ne_of_lt lt)]
      exact (hf q hq).1
  done := by
    intro X hP hw hK hc i pins s σ H E I hf st hg
    subst hP hw hK
    obtain ⟨⟨v, f, ho, hz⟩, hI, ⟨b1, b2, b3, hO⟩, h1, h2, h3⟩ := st
    obtain ⟨xs, qx, hlen⟩ := hg
    obtain ⟨t1, r1, p1, _⟩ := I.tuple qx
    have le := r1.length
    refine pyEnd3 (I.ok.hd hc) D ho hz hI ⟨h1, p1⟩ (by simp; omega) fun h' hk => ⟨rfl, I.turnedL (t' := s.toks) (ch := [z, ti, to, i1, i2, i3]) (fun q o hb e => ?_) hf⟩
    exact hk q o (fun q' => hb (by simp [q'])) (fun q' => hb (by simp [q'])) (fun q' => hb (by simp [q'])) (fun q' => hb (by simp [q'])) (fun q' => hb (by simp [q'])) e
  self := fun A i s Q E st h => by
    obtain ⟨⟨v, f, _, hz⟩, _⟩ := st
    exact iter3 hz h

theorem far_at (n a b c : Nat) (ha : a < n) (hb : b < n) (hc : c < n) : Far3 (n + 5) (n + 3) (n + 4) n (n + 1) (n + 2) a b c := by
  constructor <;> first | (show (_ : Nat) ≠ _; omega) | (refine ⟨?_, ?_, ?_, ?_, ?_⟩ <;> (show (_ : Nat) ≠ _; omega))

def iZip3 (K : PySem.W.Frag) (ta : TA) : TI := fun σ H R => ta σ H fun vs H1 => ∃ a b c xs ys zs, vs = [.ref a, .ref b, .ref c] ∧ SqT K H1 a xs ∧ SqT K H1 b ys ∧ SqT K H1 c zs ∧ R (It3 K a b c) H1
/-- zip(e, e2, e3), tuples of one length; any target -/
theorem pi_zip3 {X : Cx} {tg e e2 e3 : Expr} {ta : TA} {p pos : Pos} (hg : Gl X "zip") (hm : X.mg "zip" = none) (ha : PA X [e, e2, e3] ta)
    (hs : starEach [e, e2, e3] X.env = (false, eval e X.env) :: starEach [e2, e3] X.env := by rfl) (hpl : (backTo pos (starEach [e2, e3] X.env)).any (·.1) = false := by rfl) :
    PI X tg (.Call (.Name "zip" p) [e, e2, e3] [] pos) (iZip3 X.K ta) := by
  refine ⟨fun pins s σ H R I h => ?_⟩
  refine Call_ (ld_blt I hg hm PyProof.Rows.boot_zip (PyProof.Rows.callWith_type1 (thn (ha.run pos pins s σ H _ I h) fun us s1 q => ?_) hs hpl))
  obtain ⟨vs, H1, I1, r1, a, b, c, xs, ys, zs, ex, q1, q2, q3, q⟩ := q
  subst ex
  cases r1 with
  | cons ra rr =>
    cases rr with
    | cons rb rr =>
      cases rr with
      | cons rc rr =>
        cases rr
        cases ra
        cases rb
        cases rc
        obtain ⟨t1, r1, p1, _⟩ := I1.tuple q1
        obtain ⟨t2, r2, p2, _⟩ := I1.tuple q2
        obtain ⟨t3, r3, p3, _⟩ := I1.tuple q3
        obtain ⟨o1, g1, _⟩ := id p1
        obtain ⟨o2, g2, _⟩ := id p2
        obtain ⟨o3, g3, _⟩ := id p3
        refine zip_begins3 (begins_tuple a t1.toArray) (begins_tuple b t2.toArray) (begins_tuple c t3.toArray) p1 p2 p3 fun h' hz hI hO e1 e2 e3 hsz hk => iter3 hz ?_
        have I2 : Inv X pins σ H1 { s1 with heap := h' } := I1.kept (t' := s1.toks) hk
        refine ⟨s1.heap.objs.size + 5, [s1.heap.objs.size + 5, s1.heap.objs.size + 3, s1.heap.objs.size + 4, s1.heap.objs.size, s1.heap.objs.size + 1, s1.heap.objs.size + 2], _, _, H1, rfl, I2, turn3 (far_at s1.heap.objs.size a b c (Heap.lt_size g1) (Heap.lt_size g2) (Heap.lt_size g3)),
          ⟨⟨.none, false, .inl rfl, hz⟩, hI, ⟨_, _, _, hO⟩, ⟨_, e1, rfl, rfl⟩, ⟨_, e2, rfl, rfl⟩, ⟨_, e3, rfl, rfl⟩⟩, fun q hq => ?_, q⟩
        have le : s1.heap.objs.size ≤ q := by
          have e' : q = s1.heap.objs.size + 5 ∨ q = s1.heap.objs.size + 3 ∨ q = s1.heap.objs.size + 4 ∨ q = s1.heap.objs.size ∨ q = s1.heap.objs.size + 1 ∨ q = s1.heap.objs.size + 2 := by simpa using hq
          rcases e' with r | r | r | r | r | r <;> rw [r] <;> first | exact Nat.le_add_right _ _ | exact Nat.le_refl _
        exact I1.fpOk le (I1.hok.fresh le)

/-- a new triple of the i-th ones -/
def Y3 (xs ys zs : List V) : Nat → Hp → V → Hp → Prop := fun i H v H' => ∃ T x y z, v = .ref T ∧ H T = none ∧ H' = upd H T (.tup [x, y, z]) ∧ xs[i]? = some x ∧ ys[i]? = some y ∧ zs[i]? = some z
theorem walk_zip3 {K : PySem.W.Frag} {a b c : Addr} {xs ys zs : List V} (h2 : ys.length = xs.length) (h3 : zs.length = xs.length) :
    Walk (It3 K a b c) xs.length (fun H => SqT K H a xs ∧ SqT K H b ys ∧ SqT K H c zs) (Y3 xs ys zs) := by
  refine ⟨fun i _ hi q => ?_, fun _ q => ⟨xs, q.1, Nat.le_refl _⟩, fun i H v H' _ q y => ?_⟩
  · exact ⟨xs, ys, zs, xs[i], ys[i]'(by omega), zs[i]'(by omega), q.1, q.2.1, q.2.2, by simp [hi], by simp [show i < ys.length by omega], by simp [show i < zs.length by omega]⟩
  · obtain ⟨T, x, y, z, e1, e2, e3, f1, f2, f3⟩ := y
    exact ⟨T, x, y, z, e1, e2, e3, f1 xs q.1, f2 ys q.2.1, f3 zs q.2.2⟩
theorem walk_zipT {K : PySem.W.Frag} {a b : Addr} {xs ys : List V} (h2 : ys.length = xs.length) :
    Walk (RZ.ItzT K a b) xs.length (fun H => SqT K H a xs ∧ SqT K H b ys) (YPair (fun i => xs[i]?) (fun i => ys[i]?)) := by
  refine ⟨fun i _ hi q => ?_, fun _ q => ⟨xs, ys, q.1, q.2, by omega⟩, fun i H v H' _ q y => ?_⟩
  · exact ⟨xs, ys, xs[i], ys[i]'(by omega), q.1, q.2, by simp [hi], by simp [show i < ys.length by omega]⟩
  · obtain ⟨T, x, u, e1, e2, e3, f1, f2⟩ := y
    exact ⟨T, x, u, e1, e2, e3, f1 xs q.1, f2 ys q.2⟩
end NB

set_option Elab.async false
set_option linter.all false
set_option maxRecDepth 100000
set_option maxHeartbeats 1000000
namespace NB
open PySem PySem.Spec PyProof.Rows L2

/-- the law's own call, its def kept to its promise where nothing is being shown -/
theorem law_end {P : Program} {w : World} {K : PySem.W.Frag} {mg mb : Str → Option Value} {k : Nat} {fa a : Addr} {fd : FuncData} {x : Str} {sp : Sp} {s : Shared} {vs : List Value} {ns : List Int}
    (hK : K.In s.heap) (hN : s.heap.Ns mainGlobals mg) (hB : s.heap.Ns builtinsNs mb) (hbb : ∀ x : Str, x ≠ "__name__" → mb x = bootBuiltins x) (lim : s.heap.NoLimit) (hg : s.gens = #[])
    (ha : s.heap.get? a = some { cls := .type "list", data := .seq vs.toArray }) (hi : IntsAre vs ns) (hl : ns.length ≤ sizeLine) (hr : Room k callerA)
    (F : ∀ base : Heap, K.In base → base.Ns mainGlobals mg → FnG P w K mg base k fa fd [x] sp) (hb : ∀ (s : Shared) (u : Value), BindsTo s fd ⟨[u], []⟩ [(x, u)])
    (hsp : ∀ H : Hp, SqL K H a (ns.map V.int) → sp [.ref a] H (fun v _ => v = .bl true) E0) :
    codeAny (model P w) callerA (.call (.ref fa) ⟨[.ref a], []⟩) (fun r s' => r = .ok (.ret (.bool true)) ∧ OldK s.heap s'.heap ∧ s'.os = s.os ∧ AllBare s'.gens) s := by
  have rv := vals_ints hi
  have lv := hi.length
  -- H: the script alone is tracked, or nothing
  suffices go : ∀ H : Hp, (∀ b, H b ≠ none → b = a ∧ K.lookup a = none ∧ ∃ o xs, H b = some (.frz o (.lst xs))) → SqL K H a (ns.map V.int) → HOk P w H s.heap →
      codeAny (model P w) callerA (.call (.ref fa) ⟨[.ref a], []⟩) (fun r s' => r = .ok (.ret (.bool true)) ∧ OldK s.heap s'.heap ∧ s'.os = s.os ∧ AllBare s'.gens) s by
    cases hk : K.lookup a with
    | some o =>
      have e := hK a o hk
      rw [ha] at e
      cases e
      refine go (fun _ => none) (fun b q => absurd rfl q) (.inr ⟨_, vs.toArray, _, hk, rfl, rfl, rfl, ?_, by simpa using rv⟩) (fun b u q => by cases (show (none : Option HO) = some u from q))
      rw [List.size_toArray, lv]
      exact hl
    | none =>
      refine go (fun b => if b = a then some (.frz { cls := .type "list", data := .seq vs.toArray } (.lst (ns.map V.int))) else none) (fun b q => ?_) (.inl (.inr ⟨_, if_pos rfl⟩)) (fun b u q => ?_)
      · by_cases h : b = a
        · exact ⟨h, hk, _, _, if_pos h⟩
        · exact absurd (if_neg h) q
      · by_cases h : b = a
        · have q' := (if_pos h).symm.trans q
          cases q'
          subst h
          exact ⟨ha, by rw [List.length_map]; exact hl, vs, _, rv, ha⟩
        · have q' := (if_neg h).symm.trans q
          cases q'
  intro H hO hS ok
  have dictFree : ∀ {b : Addr} {o : Obj} {es : Array DictEntry} {ep : Nat}, s.heap.get? b = some o → o.data = .dict es ep → H b = none := by
    intro b o es ep e d
    cases q : H b with
    | none => rfl
    | some u =>
      obtain ⟨e', _⟩ := hO b (by rw [q]; simp)
      subst e'
      rw [ha] at e
      cases e
      cases (show Data.seq vs.toArray _ = Data.dict es ep from d)
  have ns' : ∀ {b : Addr} {m : Str → Option Value}, s.heap.Ns b m → (hidT s.heap H).Ns b m := by
    rintro b m ⟨o, es, ep, e, d, r⟩
    exact ⟨o, es, ep, hidT_get e (dictFree e d), d, r⟩
  have kB : K.In (hidT s.heap H) := by
    intro b o e
    refine hidT_get (hK b o e) ?_
    cases q : H b with
    | none => rfl
    | some u =>
      obtain ⟨e', n, _⟩ := hO b (by rw [q]; simp)
      subst e'
      rw [n] at e
      cases e
  have md : Mod K mg (hidT s.heap H) := by
    obtain ⟨mc, h1, h2⟩ := lim
    exact ⟨kB, ns' hN, ⟨mb, ns' hB, hbb⟩, ⟨mc, ns' h1, h2⟩⟩
  have e0 : Env0 P w K mg (hidT s.heap H) callerA [] s H :=
    ⟨rfl, md, fun b o e => of_hidT e, Nat.le_of_eq (hidT_size _ _), trivial, fun b q => absurd (show b ∈ ([] : List Addr) from q) (by simp), ok, .of_eq hg⟩
  refine codeAny_mono ((F _ kB (ns' hN)).go callerA [] s H ⟨[.ref a], []⟩ [.ref a] [.ref a] _ _ rfl hr e0 (hb s (.ref a)) (.cons rfl .nil) (hsp H hS)) ?_
  intro r s' q
  cases r with
  | error e => exact False.elim q
  | ok fl =>
    cases fl with
    | next => exact False.elim q
    | brk => exact False.elim q
    | cont => exact False.elim q
    | ret u =>
      obtain ⟨v, H', os, bare, un, ok', r', q'⟩ := q
      have q2 : v = .bl true := q'
      subst q2
      obtain rfl : u = Value.bool true := r'
      refine ⟨rfl, OldK.of_keep fun b o e => ?_, os, bare⟩
      cases q : H b with
      | none => exact un.keep b o e q (fun z => absurd (show b ∈ ([] : List Addr) from z) (by simp)) (by simp)
      | some u =>
        obtain ⟨_, _, ob, xs, z⟩ := hO b (by rw [q]; simp)
        obtain ⟨e1, _⟩ := ok b _ z
        obtain ⟨e2, _⟩ := ok' b _ (un.frzs b ob _ z)
        rw [e] at e1
        cases e1
        exact e2

/-- what k_head leaves, from the promise of the law's def -/
theorem walkG {l : PySem.W.OpenLaw} {n k : Nat} {q : Program} {loose : List Str} {XP : (Str → Option Value) → Heap → Prop} {YP : World → Heap → Prop} {d : DefRec} {K : Params → PySem.W.Frag} {sp : World → Sp} {x : Str}
    (hn : l.most = some n) (hn2 : n ≤ sizeLine) (hdf : d.params.defaults = []) (hr : Room k callerA) (hY : ∀ (w : World) (h : Heap), YP w h → (K w.params).In h)
    (F : ∀ (w : World) (mg : Str → Option Value) (fa : Addr) (h : Heap), (K w.params).In h → h.Ns mainGlobals mg → mg d.name = some (.ref fa) →
      ∃ fd : FuncData, (∀ (s : Shared) (u : Value), BindsTo s fd ⟨[u], []⟩ [(x, u)]) ∧
        ∀ base : Heap, (K w.params).In base → base.Ns mainGlobals mg → FnG l.prog w (K w.params) mg base k fa fd [x] (sp w))
    (hsp : ∀ (w : World) (H : Hp) (a : Addr) (ns : List Int), ns.length ≤ n → SqL (K w.params) H a (ns.map V.int) → sp w [.ref a] H (fun v _ => v = .bl true) E0) :
    PySem.W.WalkO q loose XP YP l.row.toRowW d [] (fun f vs => PySem.call f vs) := by
  refine Att.attach_call hn hdf ?_
  intro w s₀ s₁ mg mb fa o pm cd doc a vs ns G Y ho hd hcd hmg hobj hints hlen hg
  have kX := hY w _ Y
  obtain ⟨fd, hb, hF⟩ := F w mg fa _ kX G.T.g hmg
  exact law_end kX G.T.g G.T.b G.T.builtins G.T.nolimit hg hobj hints (Nat.le_trans hlen hn2) hr hF hb fun H hS => hsp w H a ns hlen hS
end NB

set_option Elab.async false
set_option linter.all false
set_option maxRecDepth 100000
set_option maxHeartbeats 1000000
namespace NB
open PySem PySem.Spec PyProof.Rows L2
section
variable {prog : Program} {w : World} {A : Around} {E : Value → Shared → Prop} {s : Shared}
theorem sortedTuple {t : Addr} {vs : List Value} {ns : List Int} {Q : Value → Shared → Prop} (hl : s.heap.IsTuple t vs.toArray) (hI : IntsAre vs ns) (h64 : vs.length < 64)
    (h : ∀ (h1 h' : Heap) (p : Addr) (out : Array Value) (ep : Nat) (ns' : List Int), IntsAre out.toList ns' → ns'.Perm ns → ns'.Pairwise (· ≤ ·) → (∀ b o, s.heap.get? b = some o → h1.get? b = some o) → (∀ b o, h1.get? b = some o → h'.get? b = some o) → h1.objs.size ≤ p →
      h'.get? p = some (seqObj "list" out ep) → Q (.ref p) { s with heap := h' }) :
    wpAny (model prog w) A (call (.builtin "sorted") [.ref t]) Q E s := by
  obtain ⟨o, ho, hc, n, hd⟩ := hl
  refine Calls.call_function_entry kind_sorted plain_sorted entry_sorted (args_sorted1 _) ?_
  unfold Builtin.«sorted»
  refine wpAny_bind (m := checkCount "sorted" 1 1 _) (wpAny_pure ?_)
  refine wpAny_bind (wpAny_collect_seq t (.inr rfl) ho hc hd (fun h1 hk => ?_) (by rw [List.size_toArray, sizeLine_eq]; omega))
  refine wpAny_bind (wpAny_newList ?_)
  have e0 : (vs.toArray.toList) = vs := rfl
  have hoL : (h1.push (seqObj "list" vs.toArray 0)).get? h1.objs.size = some (seqObj "list" vs.toArray 0) := Heap.get?_push_size _ rfl
  show wpAny _ _ _ _ _ { s with heap := h1.push (seqObj "list" vs.toArray 0) }
  refine wpAny_bind (wpAny_holding (wpAny_call_entry slot_list_sort ⟨_, hoL, rfl⟩ entry_list_sort (list_sort_tree hoL hI h64 fun out ns' q1 q2 q3 => ⟨_, rfl, ?_⟩) (args_list_sort _)))
  refine wpAny_pure ⟨_, rfl, ?_⟩
  obtain ⟨ep, hat⟩ := sortedHeap_at (vs := vs) (out := out) hoL
  refine h h1 _ h1.objs.size out ep ns' q1 q2 q3 hk (fun b o q => ?_) (Nat.le_refl _) hat
  have lt := Heap.lt_size q
  rw [sortedHeap_old (Nat.ne_of_lt lt) (by rw [size_push']; exact Nat.lt_succ_of_lt lt)]
  exact Heap.get?_push_of_some _ q
end
section
variable {X : Cx}
/-- sorted(t), t a tuple of few ints -/
def rSortT (K : PySem.W.Frag) : List V → Hp → VK → Prop := fun vs H Q => ∃ (a : Addr) (ns : List Int), vs = [V.ref a] ∧ SqT K H a (ns.map V.int) ∧ ns.length < 64 ∧
  ∀ (ns' : List Int) (p : Addr), ns'.Perm ns → ns'.Pairwise (· ≤ ·) → H p = none → Q (.ref p) (upd H p (.lst (ns'.map V.int)))
theorem cr_sortT : CallR X (.builtin "sorted") (rSortT X.K) := by
  intro pins s σ H vs us Q I r h
  obtain ⟨a, ns, rfl, hs, h64, q⟩ := h
  obtain ⟨its, rv, hl, _⟩ := I.tuple hs
  rw [Vals.ref1 r]
  have hi := rv.ints
  refine sortedTuple hl hi (by rw [hi.length]; exact h64) fun h1 h' p out ep ns' q1 q2 q3 k1 k2 hp hat => ?_
  have I1 : Inv X pins σ H { s with heap := h1 } := I.kept (t' := s.toks) k1
  have hlen : (ns'.map V.int).length ≤ sizeLine := by rw [List.length_map, q2.length_eq]; exact small64 h64
  exact ⟨.ref p, upd H p (.lst (ns'.map V.int)), I1.laid (t' := s.toks) k2 hp ⟨hlen, out.toList, ep, vals_of_ints q1, hat⟩, rfl, q ns' p q2 q3 (I1.hok.fresh hp)⟩

theorem perm_sum {l l' : List Int} (h : l.Perm l') : l.sum = l'.sum := by
  induction h with
  | nil => rfl
  | cons x _ ih => simp only [List.sum_cons, ih]
  | swap x y l => simp only [List.sum_cons]; omega
  | trans _ _ i1 i2 => exact i1.trans i2
/-- the middle one of three -/
def mid3 (a b c : Int) : Int := if a ≤ b then (if b ≤ c then b else if a ≤ c then c else a) else (if a ≤ c then a else if b ≤ c then c else b)
theorem mid_of_sorted {a b c x y z : Int} (p : [x, y, z].Perm [a, b, c]) (s : [x, y, z].Pairwise (· ≤ ·)) : y = mid3 a b c := by
  have h1 : x ≤ y ∧ y ≤ z := by
    rw [List.pairwise_cons, List.pairwise_cons] at s
    exact ⟨s.1 y (by simp), s.2.1 z (by simp)⟩
  have ha : a ∈ [x, y, z] := p.symm.subset (by simp)
  have hb : b ∈ [x, y, z] := p.symm.subset (by simp)
  have hc : c ∈ [x, y, z] := p.symm.subset (by simp)
  have hs : x + y + z = a + b + c := by
    have e := perm_sum p
    simp only [List.sum_cons, List.sum_nil] at e
    omega
  simp only [List.mem_cons, List.not_mem_nil, or_false] at ha hb hc
  unfold mid3
  rcases ha with e | e | e <;> rcases hb with f | f | f <;> rcases hc with g | g | g <;> split <;> split <;> (try split) <;> omega
theorem max3 (hc : X.calm = true) : CallR X (.builtin "max") (fun xs H Q => ∃ i j k : Int, xs = [.int i, .int j, .int k] ∧ Q (.int (max (max i j) k)) H) := by
  intro pins s σ H xs us Q I r h
  obtain ⟨i, j, k, rfl, q⟩ := h
  refine call_max3Nu hc pins s σ H _ us Q I r ⟨_, _, _, _, rfl, ?_, q⟩
  have two : ∀ a b : Int, nuMax2 (.int a) (.int b) = some (.int (max a b)) := fun a b => by
    show some (if decide (a < b) = true then V.int b else V.int a) = _
    by_cases h : a < b
    · rw [if_pos (decide_eq_true h), Int.max_eq_right (Int.le_of_lt h)]
    · rw [if_neg (by simpa using h), Int.max_eq_left (by omega)]
  show (nuMax2 (.int i) (.int j)).bind (fun m => nuMax2 m (.int k)) = _
  rw [two]
  exact two _ _
theorem min3 (hc : X.calm = true) : CallR X (.builtin "min") (fun xs H Q => ∃ i j k : Int, xs = [.int i, .int j, .int k] ∧ Q (.int (min (min i j) k)) H) := by
  intro pins s σ H xs us Q I r h
  obtain ⟨i, j, k, rfl, q⟩ := h
  refine call_min3Nu hc pins s σ H _ us Q I r ⟨_, _, _, _, rfl, ?_, q⟩
  have two : ∀ a b : Int, nuMin2 (.int a) (.int b) = some (.int (min a b)) := fun a b => by
    show some (if decide (b < a) = true then V.int b else V.int a) = _
    by_cases h : b < a
    · rw [if_pos (decide_eq_true h), Int.min_eq_right (Int.le_of_lt h)]
    · rw [if_neg (by simpa using h), Int.min_eq_left (by omega)]
  show (nuMin2 (.int i) (.int j)).bind (fun m => nuMin2 m (.int k)) = _
  rw [two]
  exact two _ _
/-- a ** b: the result within 2 ^ 27 bits -/
def CPowW (i j : Int) : Prop := 0 ≤ j ∧ (Builtin.Int.intBits i : Int) * j ≤ 2 ^ 27
theorem op_powW : OpR X (binaryOp .Pow) (rI CPowW fun i j => .int (i ^ j.toNat)) := opI fun _ _ _ _ _ _ _ hc q => pow_int hc.1 hc.2 q
end
end NB

set_option Elab.async false
set_option linter.all false
set_option maxRecDepth 100000
set_option maxHeartbeats 1000000
/-! enumerate of a tuple -/
namespace NB
open PySem PySem.Spec PyProof.Rows L2

theorem enumNewT (l : Addr) (items : Array Value) : Meets (Builtin.«enumerate.__new__» ⟨[.type "enumerate", .ref l], []⟩) (fun _ R s => s.heap.IsTuple l items ∧
      R (.ok (.ret (.ref (s.heap.push { cls := .type "tuple_iterator", data := .fields #[.ref l, .int 0 0] }).objs.size)))
        { s with heap := (s.heap.push { cls := .type "tuple_iterator", data := .fields #[.ref l, .int 0 0] }).push { cls := .type "enumerate", data := .fields #[.none, .bool false, .ref s.heap.objs.size, rawInt 0, .none, .none] } }) :=
  .of_wp fun prog w A R s h => by
    obtain ⟨hp, g, d, tk, os⟩ := s
    obtain ⟨hl, h⟩ := h
    have hsub := sub_enumerate
    have hL : Heap.IsTuple (Shared.heap ⟨hp, g, d, tk, os⟩) l items := hl
    wp_walk
    refine wpAny_stack_any fun st => wpAny_pure ?_
    split
    · rename_i c _ _ _ _ _
      cases (c == Value.type "enumerate")
      · wp_walk using wpAny_pyIter_tuple hL
        exact ⟨_, rfl, h⟩
      · wp_walk using wpAny_pyIter_tuple hL
        exact ⟨_, rfl, h⟩
    · wp_walk using wpAny_pyIter_tuple hL
      exact ⟨_, rfl, h⟩
section
variable {prog : Program} {w : World} {A : Around} {E : Value → Shared → Prop} {s : Shared}
theorem enumT {l : Addr} {items : Array Value} {Q : Value → Shared → Prop} (hL : s.heap.IsTuple l items)
    (h : ∀ h', IsEnum h' (s.heap.objs.size + 1) s.heap.objs.size 0 .none → h'.IsTupleIter s.heap.objs.size l 0 → (∀ b o, s.heap.get? b = some o → h'.get? b = some o) → Q (.ref (s.heap.objs.size + 1)) { s with heap := h' }) :
    wpAny (model prog w) A (call (.type "enumerate") [.ref l]) Q E s := by
  refine callType_new F.called_enumerate (by decide) (F.typeCall_enumerate_1 _) (F.newCall_enumerate_1 _) (fun obj => F.args_object_init_2 obj _) F.entry_enumerate_new (enumNewT l items) ⟨hL, ?_⟩
  have z : (s.heap.push { cls := .type "tuple_iterator", data := .fields #[.ref l, .int 0 0] }).objs.size = s.heap.objs.size + 1 := Heap.size_push ..
  have he := Heap.get?_push_size (s.heap.push { cls := .type "tuple_iterator", data := .fields #[.ref l, .int 0 0] }) (o := { cls := .type "enumerate", data := .fields #[.none, .bool false, .ref s.heap.objs.size, rawInt 0, .none, .none] }) rfl
  show _ ∧ _
  rw [z] at he ⊢
  exact ⟨⟨_, he, rfl⟩, h _ he ⟨_, Heap.get?_push_of_some _ (Heap.get?_push_size _ rfl), rfl, rfl⟩ fun b o x => Heap.get?_push_of_some _ (Heap.get?_push_of_some _ x)⟩
end
/-- a tuple's items with their numbers, in new pairs -/
def ItE (K : PySem.W.Frag) (a : Addr) : It :=
  ⟨fun i H => ∃ (xs : List V) (x : V), SqT K H a xs ∧ xs[i]? = some x,
    fun i H v H' => ∃ T x, v = .ref T ∧ H T = none ∧ H' = upd H T (.tup [.int (i : Nat), x]) ∧ ∀ xs, SqT K H a xs → xs[i]? = some x,
    fun i H => ∃ xs : List V, SqT K H a xs ∧ xs.length = i⟩
theorem turnE {P : Program} {w : World} {K : PySem.W.Frag} {elts : List Expr} {kk : Nat} {tpos : Pos} (a e it : Addr) (n1 : e ≠ it) (n2 : a ≠ it) (n3 : e ≠ a) :
    Turn P w K (.Tuple elts kk tpos) (ItE K a) [e, it] e (fun i h => (∃ old, IsEnum h e it ((i : Nat) : Int) old) ∧ h.IsTupleIter it a i) where
  mem := by simp
  obj := fun i h st b hb => by
    obtain ⟨⟨old, he⟩, ⟨o, ho, hc, hd⟩⟩ := st
    have e' : b = e ∨ b = it := by simpa using hb
    rcases e' with z | z
    · rw [z]; exact ⟨_, he, fun v q => nomatch q⟩
    · rw [z]; exact ⟨o, ho, fun v q => by rw [hd] at q; cases q⟩
  keep := fun i h h' st k => by
    obtain ⟨⟨old, he⟩, hi⟩ := st
    exact ⟨⟨old, k e (by simp) _ he⟩, hi.at fun o q => k it (by simp) o q⟩
  item := by
    intro X hP hw hK hc i pins s σ H E I hf st hg
    subst hP hw hK
    obtain ⟨⟨old, he⟩, hit⟩ := st
    obtain ⟨xs, x, hq, hx⟩ := hg
    obtain ⟨its, rv, p, hz⟩ := I.tuple hq
    obtain ⟨u, hu, ru⟩ := rv.get hx
    have hel : e < s.heap.objs.size := Heap.lt_size he
    have hil : it < s.heap.objs.size := by obtain ⟨_, q, _⟩ := hit; exact Heap.lt_size q
    have lt : i < its.toArray.size := by
      have : i < its.length := by
        rcases Nat.lt_or_ge i its.length with q | q
        · exact q
        · rw [List.getElem?_eq_none q] at hu
          cases hu
      simpa using this
    have hD := I.ok.hd hc
    refine wpAny_pyNext_enum_itemD (Draws.tuple (A := X.A.in1) hD it a n2 its.toArray) he ⟨hit, p⟩ lt n1 (by simp; exact ⟨n1, n3⟩) fun y h' tk hy ho st' hT hsz hk => ?_
    have ey : y = u := by
      have q : its.toArray[i]? = some u := by simpa using hu
      exact Option.some.inj (hy.symm.trans q)
    subst ey
    refine ⟨_, rfl, wpAny_letOwnedTupleGo_enum (s := { s with heap := h', toks := tk + 1 }) ho fun h'' he' sb => ?_⟩
    have hT2 : h''.get? s.heap.objs.size = some { cls := .type "tuple", data := .seq #[.int i tk, y] } := (sb.2 _ (Nat.ne_of_gt hel)).trans hT
    have new : ObjOk X.prog X.w (upd H s.heap.objs.size (.tup [.int (i : Nat), x])) h'' s.heap.objs.size (.tup [.int (i : Nat), x]) :=
      ⟨by show 2 ≤ sizeLine; decide, [.int i tk, y], .cons ⟨_, rfl⟩ (.cons ru .nil), ⟨_, hT2, rfl, _, rfl⟩⟩
    have I1 : Inv X pins σ (upd H s.heap.objs.size (.tup [.int (i : Nat), x])) { s with heap := h'', toks := tk + 1 } :=
      I.turnedNew (ch := [e, it]) (fun b ob hb q => (sb.2 b (fun z => hb (by simp [z]))).trans (hk b ob (fun z => hb (by simp [z])) (fun z => hb (by simp [z])) q)) hf (Nat.le_refl _) new
    refine ⟨.ref s.heap.objs.size, _, I1, rfl, ⟨_, x, rfl, I.hok.fresh (Nat.le_refl _), rfl, fun ys hy => by rw [I.tuple_inj hy hq]; exact hx⟩, ⟨⟨y, ?_⟩, st'.1.at fun o q => (sb.2 it n1.symm).trans q⟩, fun b hb => ?_⟩
    · rw [show ((i + 1 : Nat) : Int) = (i : Int) + 1 by omega]
      exact he'
    · have hb' : b < s.heap.objs.size := by
        have e' : b = e ∨ b = it := by simpa using hb
        rcases e' with z | z
        · rw [z]; exact hel
        · rw [z]; exact hil
      rw [upd_ne (Nat.ne_of_lt hb')]
      exact (hf b hb).1
  done := by
    intro X hP hw hK hc i pins s σ H E I hf st hg
    subst hP hw hK
    obtain ⟨⟨old, he⟩, hit⟩ := st
    obtain ⟨xs, hq, hx⟩ := hg
    obtain ⟨its, rv, p, hz⟩ := I.tuple hq
    obtain ⟨f0, f1, f2, f3, f4, f5⟩ := hf it (by simp)
    have le : i = its.toArray.size := by
      have := rv.length
      simp
      omega
    subst le
    exact wpAny_pyNext_enum_endD (Draws.tuple (A := X.A.in1) (I.ok.hd hc) it a n2 its.toArray) he ⟨hit, p⟩ fun h' eb => ⟨rfl, I.turned (t' := s.toks) (fun b o hb q => eb b o hb q) f0 f1 f3 f4 f5⟩
  self := fun A i s Q E st h => by
    obtain ⟨⟨_, he⟩, _⟩ := st
    exact wpAny_pyIter_enum he h
def iEnumT (K : PySem.W.Frag) (ta : TA) : TI := fun σ H R => ta σ H fun vs H1 => ∃ a xs, vs = [.ref a] ∧ SqT K H1 a xs ∧ R (ItE K a) H1
theorem pi_enumT {X : Cx} {e : Expr} {ta : TA} {p pos tpos : Pos} {elts : List Expr} {kk : Nat} (hg : Gl X "enumerate") (hm : X.mg "enumerate" = none) (ha : PA X [e] ta) (hs : starEach [e] X.env = [(false, eval e X.env)] := by rfl) :
    PI X (.Tuple elts kk tpos) (.Call (.Name "enumerate" p) [e] [] pos) (iEnumT X.K ta) := by
  refine ⟨fun pins s σ H R I h => ?_⟩
  refine Call_ (ld_blt I hg hm boot_enumerate (PyProof.Rows.callWith_type1 (thn (ha.run pos pins s σ H _ I h) ?_) hs rfl))
  rintro us s1 ⟨vs, H1, I1, r1, a, xs, ex, hq, q⟩
  subst ex
  cases r1 with
  | cons r rr =>
    cases rr
    cases r
    obtain ⟨its, rv, p', hz⟩ := I1.tuple hq
    obtain ⟨o, g, _⟩ := id p'
    have la : a < s1.heap.objs.size := Heap.lt_size g
    refine enumT (items := its.toArray) p' fun h' he hit hk => wpAny_pyIter_enum he ?_
    have I2 : Inv X pins σ H1 { s1 with heap := h' } := I1.kept (t' := s1.toks) hk
    refine ⟨s1.heap.objs.size + 1, [s1.heap.objs.size + 1, s1.heap.objs.size], _, _, H1, rfl, I2, turnE a (s1.heap.objs.size + 1) s1.heap.objs.size (Nat.succ_ne_self _) (Nat.ne_of_lt la) (Nat.ne_of_gt (Nat.lt_succ_of_lt la)), ⟨⟨.none, he⟩, hit⟩, fun b hb => ?_, q⟩
    have e' : b = s1.heap.objs.size + 1 ∨ b = s1.heap.objs.size := by simpa using hb
    have hle : s1.heap.objs.size ≤ b := by
      rcases e' with z | z
      · rw [z]; exact Nat.le_add_right _ _
      · rw [z]; exact Nat.le_refl _
    exact I1.fpOk hle (I1.hok.fresh hle)
theorem walk_enumT {K : PySem.W.Frag} {a : Addr} {xs : List V} : Walk (ItE K a) xs.length (fun H => SqT K H a xs) (YPair (fun i => some (.int (i : Nat))) (fun i => xs[i]?)) := by
  refine ⟨fun i _ hi q => ⟨xs, xs[i], q, by simp [hi]⟩, fun _ q => ⟨xs, q, rfl⟩, fun i H v H' _ q y => ?_⟩
  obtain ⟨T, x, h1, h2, h3, h4⟩ := y
  exact ⟨T, .int (i : Nat), x, h1, h2, h3, rfl, h4 xs q⟩
end NB

set_option Elab.async false
set_option linter.all false
set_option maxRecDepth 100000
/-! t[::-1] of a tuple; repr of a truth. -/
namespace NB
open PySem PySem.Spec PyProof.Rows L2 HT

section
variable {prog : Program} {w : World} {A : Around} {E : Value → Shared → Prop} {s : Shared}
theorem adjust_back (n : Nat) : Builtin.Slice.sliceAdjust none none (-1) (n : Int) = ((n : Int) - 1, -1) := by
  unfold Builtin.Slice.sliceAdjust
  first
  | rfl
  | simp
theorem places_back (n : Nat) : Builtin.Slice.slicePlaces ((n : Int) - 1) (-1) (-1) = n := by
  unfold Builtin.Slice.slicePlaces
  have h1 : ¬ ((-1 : Int) > 0) := by decide
  simp only [h1, if_false]
  split <;> simp <;> omega
theorem sliceBack {sl : Addr} {vl vu vk : Value} {n : Nat} {Q : Int × Int × Nat → Shared → Prop} (hs : s.heap.IsSliceOf sl vl vu vk) (pl : IsPart vl none) (pu : IsPart vu none) (pk : IsPart vk (some (-1)))
    (h : Q ((n : Int) - 1, -1, n) s) : wpAny (model prog w) A (Builtin.Slice.sliceApplied (.ref sl) (pure (n : Int))) Q E s := by
  obtain ⟨os, hos, hcs, hds⟩ := id hs
  unfold Builtin.Slice.sliceApplied Builtin.Slice.sliceFields
  refine wpAny_bind (wpAny_bind (wpAny_field hos hds (x := vl) rfl (wpAny_bind (wpAny_field hos hds (x := vu) rfl (wpAny_bind (wpAny_field hos hds (x := vk) rfl (wpAny_pure ?_)))))))
  refine wpAny_bind (slicePart_ pk ?_)
  show wpAny _ _ (if ((-1 : Int) == 0) = true then _ else _) _ _ s
  rw [if_neg (by decide)]
  refine wpAny_bind (slicePart_ pl (wpAny_bind (slicePart_ pu (wpAny_bind (wpAny_pure ?_)))))
  show wpAny _ _ (match Builtin.Slice.sliceAdjust none none (-1) (n : Int) with | (lo, hi) => pure (lo, (-1 : Int), Builtin.Slice.slicePlaces lo hi (-1))) _ _ s
  rw [adjust_back n]
  show wpAny _ _ (pure ((n : Int) - 1, (-1 : Int), Builtin.Slice.slicePlaces ((n : Int) - 1) (-1) (-1))) _ _ s
  rw [places_back]
  exact wpAny_pure h
theorem pick_back (xs : Array Value) : ((List.range xs.size).filterMap fun (m : Nat) => xs[(((xs.size : Int) - 1) + (m : Int) * -1).toNat]?).toArray = xs.toList.reverse.toArray := by
  have e : ((List.range xs.size).filterMap fun (m : Nat) => xs[(((xs.size : Int) - 1) + (m : Int) * -1).toNat]?) = ((List.range xs.size).map fun k => xs.size - 1 - k).filterMap (xs[·]?) := by
    rw [List.filterMap_map]
    congr 1
    funext m
    have : (((xs.size : Int) - 1) + (m : Int) * -1).toNat = xs.size - 1 - m := by omega
    rw [this]
    rfl
  rw [e, PySem.W.krv_range, List.filterMap_reverse, PySem.W.krv_all]
theorem getItem_tuple_back {t sl : Addr} {items : Array Value} {vl vu vk : Value} {Q : Value → Shared → Prop} (ht : IsTup s.heap t items) (hs : s.heap.IsSliceOf sl vl vu vk) (pl : IsPart vl none) (pu : IsPart vu none) (pk : IsPart vk (some (-1)))
    (h : Q (.ref s.heap.objs.size) { s with heap := s.heap.push { cls := .type "tuple", data := .seq items.toList.reverse.toArray } })
    (hsz : items.size ≤ sizeLine) : wpAny (model prog w) A (getItem (.ref t) (.ref sl)) Q E s := by
  have htake : sizeOk (.seq items.toList.reverse.toArray) := by
    show items.toList.reverse.toArray.size ≤ sizeLine
    rw [List.size_toArray, List.length_reverse, Array.length_toList]
    exact hsz
  obtain ⟨os, hos, hcs, hds⟩ := id hs
  have hTs : s.TypeIs (.ref sl) "slice" := ⟨os, hos, hcs⟩
  unfold getItem
  try with_reducible refine wpAny_holding ?_
  first | refine wpAny_bind (wpAny_pure ?_) | skip
  refine wpAny_bind (wpAny_sequenceKey ht.typeIs (by decide) ?_)
  refine wpAny_bind (wpAny_callSpecial?_slot (name := Str.ofString "__getitem__") ht.typeIs PyProof.Rows.slot_tuple_getitem
    (wpAny_call_entry PyProof.Rows.slot_tuple_getitem ht.typeIs entry_tuple_getitem ?_ (args_tuple_getitem _ _)))
  show wpAny _ _ (Builtin.Tuple.tupleItemsOf (.ref t) >>= _) _ _ s
  refine wpAny_bind (tupleItemsOf_ ht ?_)
  refine wpAny_bind (wpAny_typeOf hTs ?_)
  rw [if_pos (by decide)]
  refine wpAny_bind (sliceBack hs pl pu pk ?_)
  have hno : ¬ ((((items.size : Int) - 1) == 0 && (-1 : Int) == 1 && items.size == items.size) = true) := by
    intro q
    rw [Bool.and_eq_true, Bool.and_eq_true] at q
    exact absurd q.1.2 (by decide)
  show wpAny _ _ (if (((items.size : Int) - 1) == 0 && (-1 : Int) == 1 && items.size == items.size) = true then _ else _) _ _ s
  rw [if_neg hno, pick_back]
  first
    | exact wpAny_bind (m := Builtin.Tuple.tupleExact _) (wpAny_newObj_type (wpAny_pure ⟨_, rfl, wpAny_pure h⟩) htake)
    | exact wpAny_bind (m := Builtin.Tuple.tupleExact _) (wpAny_newObj_type (wpAny_bind (wpAny_pure (wpAny_pure ⟨_, rfl, wpAny_pure h⟩))) htake)
    | exact wpAny_bind (wpAny_bind (m := Builtin.Tuple.tupleExact _) (wpAny_newObj_type (wpAny_pure (wpAny_pure ⟨_, rfl, wpAny_pure h⟩)) htake))
    | exact wpAny_bind (wpAny_bind (m := Builtin.Tuple.tupleExact _) (wpAny_newObj_type (wpAny_pure ⟨_, rfl, wpAny_pure h⟩) htake))
end

section
variable {X : Cx}
def tRevT (K : PySem.W.Frag) (te : TE) : TE := fun σ H Q => te σ H fun x H1 => ∃ a xs, x = .ref a ∧ SqT K H1 a xs ∧ ∀ p, H1 p = none → Q (.ref p) (upd H1 p (.tup xs.reverse))
theorem pe_revT {e : Expr} {te : TE} {k : Nat} {p1 p2 p3 pos : Pos} (he : PE X e te) : PE X (.Subscript e (.Slice none none (some (.UnaryOp .USub (.Constant (.int 1) k p1) p2)) p3) pos) (tRevT X.K te) := by
  refine ⟨fun pins s σ H Q I h => ?_⟩
  refine Subscript_ (thn (he.run pins s σ H _ I h) fun v s1 ⟨x, H1, I1, r1, q1⟩ => ?_)
  obtain ⟨a, xs, ex, hx, q⟩ := q1
  subst ex
  cases r1
  have hst : PO X (some (.UnaryOp .USub (.Constant (.int 1) k p1) p2)) (tPart (tUn (rU fun i => .int (-i)) (tC (.int 1)))) := po_some (pe_un un_neg pe_int)
  refine wpAny_Slice (thn (po_none.run pins s1 σ H1 (fun o H2 => o = none ∧ H2 = H1) I1 ⟨rfl, rfl⟩) fun vl s2 ⟨l, H2, I2, pl, el, e2⟩ => ?_)
  subst el e2
  refine thn (po_none.run pins s2 σ H2 (fun o H3 => o = none ∧ H3 = H2) I2 ⟨rfl, rfl⟩) fun vu s3 ⟨u, H3, I3, pu, eu, e3⟩ => ?_
  subst eu e3
  refine thn (hst.run pins s3 σ H3 (fun o H4 => o = some (-1) ∧ H4 = H3) I3 ⟨1, rfl, -1, rfl, rfl, rfl⟩) fun vs s4 ⟨o, H4, I4, ps, eo, e4⟩ => ?_
  subst eo e4
  have I5 : Inv X pins σ H4 { s4 with heap := s4.heap.push { cls := .type "slice", data := .fields #[vl, vu, vs] } } := I4.kept (t' := s4.toks) fun b ob q => Heap.get?_push_of_some _ q
  obtain ⟨its, r, ht, hz⟩ := I5.tuple hx
  have hlen := r.length
  show wpAny (model X.prog X.w) X.A (subscriptTail e (.Slice none none (some (.UnaryOp .USub (.Constant (.int 1) k p1) p2)) p3) (.ref a) (.ref s4.heap.objs.size)) (EP X pins σ Q) X.xe { s4 with heap := s4.heap.push { cls := .type "slice", data := .fields #[vl, vu, vs] } }
  refine tail_any (ops := [.ref a, .ref s4.heap.objs.size]) ht.typeIs (PyProof.Rows.slot_tuple_getitem.lookup) ?_ (by with_unfolding_all rfl)
  refine getItem_tuple_back ht (Heap.IsSliceOf.new _ vl vu vs) pl pu ps ?_ (by rw [List.size_toArray]; omega)
  refine ⟨.ref _, _, I5.laid (t' := s4.toks) (o := .tup xs.reverse) (fun b ob q => Heap.get?_push_of_some _ q) (Nat.le_refl _) ?_, rfl, q _ (I5.hok.fresh (Nat.le_refl _))⟩
  exact ⟨by rw [List.length_reverse]; exact hz, _, r.reverse, IsTup.new _ _⟩

/-- how a truth is written -/
def shB (b : Bool) : Str := if b then "True" else "False"
/-- repr(b), b a truth -/
theorem call_reprB : CallR X (.builtin "repr") (fun xs H Q => ∃ b, xs = [.bl b] ∧ Q (.str (shB b)) H) := by
  intro pins s σ H xs us Q I r h
  obtain ⟨b, rfl, q⟩ := h
  obtain ⟨u, rfl, r1⟩ := vals1 r
  cases r1
  exact P.repr_of_bool ⟨.str (shB b), H, I.tok _, ⟨_, rfl⟩, q⟩
end
end NB

set_option Elab.async false
set_option linter.all false
set_option maxRecDepth 100000
namespace NB
open PySem PySem.Spec PyProof.Rows L2
/-- data that repr writes: at most w by weight, nested at most n deep -/
structure Small (d : PyData) (w n : Nat) : Prop where
  sh : d.showable = true
  nd : d.hasDict = false
  dp : d.depth ≤ n
  lv : d.leavesShort 100 = true
  wt : d.weight ≤ w
structure SmallAll (ds : List PyData) (w n : Nat) : Prop where
  sh : PyData.showableAll ds = true
  nd : PyData.hasDictAll ds = false
  dp : PyData.depthAll ds ≤ n
  lv : PyData.leavesShortAll 100 ds = true
  wt : PyData.weightAll ds ≤ w
theorem Small.int {i : Int} (h : i.natAbs < 10 ^ 90) : Small (.int i) 310 0 := by
  have lg : i.natAbs.log2 < 300 := by
    have h2 : i.natAbs < 2 ^ 300 := Nat.lt_of_lt_of_le h (by decide)
    by_cases e : i.natAbs = 0
    · rw [e]; decide
    · exact (Nat.log2_lt e).mpr h2
  refine ⟨?_, rfl, Nat.le_refl _, ?_, ?_⟩
  · simp only [PyData.showable, decide_eq_true_eq]
    omega
  · simp only [PyData.leavesShort, decide_eq_true_eq]
    have e := int_text_length_le10 (k := 90) (by decide) h
    show (Str.ofString (toString i)).length ≤ 100
    rw [PySem.ofString_length]
    omega
  · show (if i == 0 then 0 else i.natAbs.log2 + 1) ≤ 310
    split <;> omega
theorem Small.bool (b : Bool) : Small (.bool b) 0 0 := ⟨rfl, rfl, Nat.le_refl _, rfl, Nat.le_refl _⟩
theorem Small.none : Small .none 0 0 := ⟨rfl, rfl, Nat.le_refl _, rfl, Nat.le_refl _⟩
theorem SmallAll.nil : SmallAll [] 0 0 := ⟨rfl, rfl, Nat.le_refl _, rfl, Nat.le_refl _⟩
theorem SmallAll.cons {d : PyData} {ds : List PyData} {w v n m : Nat} (h : Small d w n) (h' : SmallAll ds v m) : SmallAll (d :: ds) (w + 1 + v) (max n m) := by
  obtain ⟨a1, a2, a3, a4, a5⟩ := h
  obtain ⟨b1, b2, b3, b4, b5⟩ := h'
  refine ⟨?_, ?_, ?_, ?_, ?_⟩
  · simp only [PyData.showableAll, a1, b1, Bool.and_self]
  · simp only [PyData.hasDictAll, a2, b2, Bool.or_self]
  · simp only [PyData.depthAll]
    omega
  · simp only [PyData.leavesShortAll, a4, b4, Bool.and_self]
  · simp only [PyData.weightAll]
    omega
theorem Small.list {ds : List PyData} {w n : Nat} (h : SmallAll ds w n) : Small (.list ds) w (n + 1) := by
  obtain ⟨a1, a2, a3, a4, a5⟩ := h
  refine ⟨?_, ?_, ?_, ?_, ?_⟩
  · simpa only [PyData.showable] using a1
  · simpa only [PyData.hasDict] using a2
  · simp only [PyData.depth]
    omega
  · simpa only [PyData.leavesShort] using a4
  · simpa only [PyData.weight] using a5
theorem Small.tuple {ds : List PyData} {w n : Nat} (h : SmallAll ds w n) : Small (.tuple ds) w (n + 1) := by
  obtain ⟨a1, a2, a3, a4, a5⟩ := h
  refine ⟨?_, ?_, ?_, ?_, ?_⟩
  · simpa only [PyData.showable] using a1
  · simpa only [PyData.hasDict] using a2
  · simp only [PyData.depth]
    omega
  · simpa only [PyData.leavesShort] using a4
  · simpa only [PyData.weight] using a5
theorem SmallAll.ints : ∀ {xs : List Int}, (∀ x ∈ xs, x.natAbs < 10 ^ 90) → SmallAll (xs.map PyData.int) (311 * xs.length) 0
  | [], _ => .nil
  | x :: xs, h => by
    have c := SmallAll.cons (Small.int (h x List.mem_cons_self)) (SmallAll.ints fun y hy => h y (List.mem_cons_of_mem _ hy))
    refine ⟨c.sh, c.nd, c.dp, c.lv, Nat.le_trans c.wt ?_⟩
    rw [List.length_cons]
    omega
theorem Small.ok {d : PyData} {w n : Nat} (h : Small d w n) (hw : w ≤ 150000) (hn : n ≤ 60) : Showable d := by
  refine ⟨h.sh, h.nd, Nat.le_trans h.dp hn, ?_⟩
  have e := PyData.shown_le 100 (by decide) d h.lv
  have := h.wt
  rw [sizeLine_eq]
  have : (100 + 2) * d.weight ≤ (100 + 2) * 150000 := Nat.mul_le_mul_left _ (Nat.le_trans h.wt hw)
  omega
/-- what Dp reads of a tuple of ints -/
theorem dp_ints {K : PySem.W.Frag} {H : Hp} : ∀ xs : List Int, DpAll K H (xs.map V.int) (xs.map PyData.int)
  | [] => .nil
  | x :: xs => .cons (.int x) (dp_ints xs)
theorem dp_tup {K : PySem.W.Frag} {H : Hp} {p : Addr} {xs : List Int} (h : SqT K H p (xs.map V.int)) : Dp K H (.ref p) (.tuple (xs.map PyData.int)) := .tup h (dp_ints xs)
end NB

set_option Elab.async false
set_option linter.all false
set_option maxRecDepth 100000
set_option maxHeartbeats 1000000
/-! Data of any kind: None, truths, whole numbers, texts, lists, tuples, dicts. -/
namespace NB
open PySem PySem.Spec PyProof.Rows L2

def kD : Key → PyData
  | .inl i => .int i
  | .inr x => .str x
mutual
/-- the value v is the data d; its lists stand apart from n -/
inductive Da (n : Addr) (H : Hp) : V → PyData → Prop
  | non : Da n H .non .none
  | bl (b : Bool) : Da n H (.bl b) (.bool b)
  | int (i : Int) : Da n H (.int i) (.int i)
  | str (x : Str) : Da n H (.str x) (.str x)
  | lst {a : Addr} {xs : List V} {ds : List PyData} : H a = some (.lst xs) → a ≠ sysModules → a ≠ n → DaAll n H xs ds → Da n H (.ref a) (.list ds)
  | tup {a : Addr} {xs : List V} {ds : List PyData} : H a = some (.tup xs) → DaAll n H xs ds → Da n H (.ref a) (.tuple ds)
  | dct {a : Addr} {kvs : List (Key × V)} {ds : List (PyData × PyData)} : H a = some (.dK kvs) → DaKv n H kvs ds → Da n H (.ref a) (.dict ds)
inductive DaAll (n : Addr) (H : Hp) : List V → List PyData → Prop
  | nil : DaAll n H [] []
  | cons {v : V} {vs : List V} {d : PyData} {ds : List PyData} : Da n H v d → DaAll n H vs ds → DaAll n H (v :: vs) (d :: ds)
inductive DaKv (n : Addr) (H : Hp) : List (Key × V) → List (PyData × PyData) → Prop
  | nil : DaKv n H [] []
  | cons {k : Key} {v : V} {kvs : List (Key × V)} {d : PyData} {ds : List (PyData × PyData)} : Da n H v d → DaKv n H kvs ds → DaKv n H ((k, v) :: kvs) ((kD k, d) :: ds)
end
mutual
theorem Da.keep {n : Addr} {H H' : Hp} (hn : ∃ zs, H n = some (.lst zs)) (k : ∀ b o, b ≠ n → H b = some o → H' b = some o) : ∀ (d : PyData) (v : V), Da n H v d → Da n H' v d
  | .none, _, h => by cases h; exact .non
  | .bool b, _, h => by cases h; exact .bl b
  | .int i, _, h => by cases h; exact .int i
  | .str x, _, h => by cases h; exact .str x
  | .list ds, _, h => by
    cases h with
    | lst e n1 n2 ha => exact .lst (k _ _ n2 e) n1 n2 (DaAll.keep hn k ds _ ha)
  | .tuple ds, _, h => by
    cases h with
    | tup e ha =>
      refine .tup (k _ _ (fun z => ?_) e) (DaAll.keep hn k ds _ ha)
      obtain ⟨zs, q⟩ := hn
      rw [z, q] at e
      cases e
  | .dict ds, _, h => by
    cases h with
    | dct e ha =>
      refine .dct (k _ _ (fun z => ?_) e) (DaKv.keep hn k ds _ ha)
      obtain ⟨zs, q⟩ := hn
      rw [z, q] at e
      cases e
theorem DaAll.keep {n : Addr} {H H' : Hp} (hn : ∃ zs, H n = some (.lst zs)) (k : ∀ b o, b ≠ n → H b = some o → H' b = some o) : ∀ (ds : List PyData) (vs : List V), DaAll n H vs ds → DaAll n H' vs ds
  | [], _, h => by cases h; exact .nil
  | d :: ds, _, h => by
    cases h with
    | cons h1 h2 => exact .cons (Da.keep hn k d _ h1) (DaAll.keep hn k ds _ h2)
theorem DaKv.keep {n : Addr} {H H' : Hp} (hn : ∃ zs, H n = some (.lst zs)) (k : ∀ b o, b ≠ n → H b = some o → H' b = some o) : ∀ (ds : List (PyData × PyData)) (kvs : List (Key × V)), DaKv n H kvs ds → DaKv n H' kvs ds
  | [], _, h => by cases h; exact .nil
  | (_, d) :: ds, _, h => by
    cases h with
    | cons h1 h2 => exact .cons (Da.keep hn k d _ h1) (DaKv.keep hn k ds _ h2)
end
mutual
theorem Da.sameD {n : Addr} {H H' : Hp} (k : Same H H') : ∀ (d : PyData) (v : V), Da n H v d → Da n H' v d
  | .none, _, h => by cases h; exact .non
  | .bool b, _, h => by cases h; exact .bl b
  | .int i, _, h => by cases h; exact .int i
  | .str x, _, h => by cases h; exact .str x
  | .list ds, _, h => by
    cases h with
    | lst e n1 n2 ha => exact .lst (k _ _ e) n1 n2 (DaAll.sameD k ds _ ha)
  | .tuple ds, _, h => by
    cases h with
    | tup e ha => exact .tup (k _ _ e) (DaAll.sameD k ds _ ha)
  | .dict ds, _, h => by
    cases h with
    | dct e ha => exact .dct (k _ _ e) (DaKv.sameD k ds _ ha)
theorem DaAll.sameD {n : Addr} {H H' : Hp} (k : Same H H') : ∀ (ds : List PyData) (vs : List V), DaAll n H vs ds → DaAll n H' vs ds
  | [], _, h => by cases h; exact .nil
  | d :: ds, _, h => by
    cases h with
    | cons h1 h2 => exact .cons (Da.sameD k d _ h1) (DaAll.sameD k ds _ h2)
theorem DaKv.sameD {n : Addr} {H H' : Hp} (k : Same H H') : ∀ (ds : List (PyData × PyData)) (kvs : List (Key × V)), DaKv n H kvs ds → DaKv n H' kvs ds
  | [], _, h => by cases h; exact .nil
  | (_, d) :: ds, _, h => by
    cases h with
    | cons h1 h2 => exact .cons (Da.sameD k d _ h1) (DaKv.sameD k ds _ h2)
end
theorem Da.same {n : Addr} {H H' : Hp} {v : V} {d : PyData} (h : Da n H v d) (k : Same H H') : Da n H' v d := Da.sameD k d v h
theorem DaAll.same {n : Addr} {H H' : Hp} {vs : List V} {ds : List PyData} (h : DaAll n H vs ds) (k : Same H H') : DaAll n H' vs ds := DaAll.sameD k ds vs h
theorem DaAll.len {n : Addr} {H : Hp} {vs : List V} {ds : List PyData} (h : DaAll n H vs ds) : vs.length = ds.length := by
  induction ds generalizing vs with
  | nil => cases h; rfl
  | cons d ds ih =>
    cases h with
    | cons h1 h2 => rw [List.length_cons, List.length_cons, ih h2]
theorem DaAll.get {n : Addr} {H : Hp} {vs : List V} {ds : List PyData} (h : DaAll n H vs ds) (i : Nat) (v : V) (e : vs[i]? = some v) : ∃ d, ds[i]? = some d ∧ Da n H v d := by
  induction ds generalizing vs i with
  | nil => cases h; simp at e
  | cons d ds ih =>
    cases h with
    | cons h1 h2 =>
      cases i with
      | zero => exact ⟨d, rfl, by cases e; exact h1⟩
      | succ i => exact ih h2 i e
theorem DaAll.mem {n : Addr} {H : Hp} {vs : List V} {ds : List PyData} (h : DaAll n H vs ds) {v : V} (hv : v ∈ vs) : ∃ d ∈ ds, Da n H v d := by
  obtain ⟨i, hi, e⟩ := List.getElem_of_mem hv
  obtain ⟨d, e1, e2⟩ := h.get i v (by rw [List.getElem?_eq_getElem hi, e])
  exact ⟨d, List.mem_of_getElem? e1, e2⟩
theorem DaAll.app {n : Addr} {H : Hp} {vs us : List V} {ds es : List PyData} (h : DaAll n H vs ds) (h' : DaAll n H us es) : DaAll n H (vs ++ us) (ds ++ es) := by
  induction ds generalizing vs with
  | nil => cases h; exact h'
  | cons d ds ih =>
    cases h with
    | cons h1 h2 => exact .cons h1 (ih h2)
theorem DaAll.take {n : Addr} {H : Hp} {vs : List V} {ds : List PyData} (h : DaAll n H vs ds) (i : Nat) : DaAll n H (vs.take i) (ds.take i) := by
  induction ds generalizing vs i with
  | nil => cases h; simp only [List.take_nil]; exact .nil
  | cons d ds ih =>
    cases h with
    | cons h1 h2 =>
      cases i with
      | zero => simp only [List.take_zero]; exact .nil
      | succ i => simp only [List.take_succ_cons]; exact .cons h1 (ih h2 i)
theorem DaAll.drop {n : Addr} {H : Hp} {vs : List V} {ds : List PyData} (h : DaAll n H vs ds) (i : Nat) : DaAll n H (vs.drop i) (ds.drop i) := by
  induction ds generalizing vs i with
  | nil => cases h; simp only [List.drop_nil]; exact .nil
  | cons d ds ih =>
    cases h with
    | cons h1 h2 =>
      cases i with
      | zero => simp only [List.drop_zero]; exact .cons h1 h2
      | succ i => simp only [List.drop_succ_cons]; exact ih h2 i
theorem DaAll.ints {n : Addr} {H : Hp} : ∀ xs : List Int, DaAll n H (xs.map V.int) (xs.map PyData.int)
  | [] => .nil
  | x :: xs => .cons (.int x) (DaAll.ints xs)
/-- of which kind it is -/
def tyD : PyData → String
  | .none => "NoneType"
  | .bool _ => "bool"
  | .int _ => "int"
  | .str _ => "str"
  | .list _ => "list"
  | .tuple _ => "tuple"
  | .dict _ => "dict"
theorem Da.ty {K : PySem.W.Frag} {n : Addr} {H : Hp} {v : V} {d : PyData} (h : Da n H v d) : TyX K H v (.type (tyD d)) := by
  cases h with
  | non => exact .base .non
  | bl b => exact .base (.bl b)
  | int i => exact .base (.int i)
  | str x => exact .base (.str x)
  | lst e _ _ _ => exact .base (.lst e)
  | tup e _ => exact .base (.tup e)
  | dct e _ => exact .base (.dK e)
def isTupD : PyData → Bool
  | .tuple _ => true
  | _ => false
def isIntD : PyData → Bool
  | .int _ => true
  | .bool _ => true
  | _ => false
def isBoolD : PyData → Bool
  | .bool _ => true
  | _ => false
def isStrD : PyData → Bool
  | .str _ => true
  | _ => false
theorem kit_tup (d : PyData) : kitB (tyD d) "tuple" = some (isTupD d) := by cases d <;> (simp only [tyD, isTupD, isIntD, isBoolD, isStrD]; decide +kernel)
theorem kit_int (d : PyData) : kitB (tyD d) "int" = some (isIntD d) := by cases d <;> (simp only [tyD, isTupD, isIntD, isBoolD, isStrD]; decide +kernel)
theorem kit_bool (d : PyData) : kitB (tyD d) "bool" = some (isBoolD d) := by cases d <;> (simp only [tyD, isTupD, isIntD, isBoolD, isStrD]; decide +kernel)
theorem kit_str (d : PyData) : kitB (tyD d) "str" = some (isStrD d) := by cases d <;> (simp only [tyD, isTupD, isIntD, isBoolD, isStrD]; decide +kernel)
section
variable {X : Cx} {pins : List (Addr × Obj)} {σ : L2.St} {H : Hp} {s : Shared}
theorem key_reads {h : Heap} {k : Key} {u : Value} (e : keyIs k u = true) : Reads h u (kD k) [] := by
  rcases keyIs_shape e with ⟨i, t, rfl, rfl⟩ | ⟨x, t, rfl, rfl⟩
  · exact .int i t
  · exact .str x t
mutual
theorem Da.reads {n : Addr} (I : Inv X pins σ H s) : ∀ (d : PyData) (v : V) (u : Value), Da n H v d → RelV v u → ∃ as, Reads s.heap u d as ∧ sysModules ∉ as
  | .none, _, _, h, r => by
    cases h
    cases r
    exact ⟨_, Reads.none, List.not_mem_nil⟩
  | .bool b, _, _, h, r => by
    cases h
    cases r
    exact ⟨_, Reads.bool b, List.not_mem_nil⟩
  | .int i, _, _, h, r => by
    cases h
    obtain ⟨t, rfl⟩ := r
    exact ⟨_, Reads.int i t, List.not_mem_nil⟩
  | .str x, _, _, h, r => by
    cases h
    obtain ⟨t, rfl⟩ := r
    exact ⟨_, Reads.str x t, List.not_mem_nil⟩
  | .list ds, _, _, h, r => by
    cases h with
    | lst e n1 n2 ha =>
      cases r
      obtain ⟨its, rv, ⟨o, m, ho, hc, _, hd⟩, _⟩ := I.list (.inl (.inl e))
      obtain ⟨as, hr, hm⟩ := Da.readsAll I ds _ its ha rv
      refine ⟨_, Reads.list ho hc hd hr, fun z => ?_⟩
      rcases List.mem_cons.mp z with q | q
      · exact n1 q.symm
      · exact hm q
  | .tuple ds, _, _, h, r => by
    cases h with
    | tup e ha =>
      cases r
      obtain ⟨its, rv, ⟨o, ho, hc, m, hd⟩, _⟩ := I.tuple (.inl (.inl e))
      obtain ⟨as, hr, hm⟩ := Da.readsAll I ds _ its ha rv
      exact ⟨_, Reads.tuple ho hc hd hr, hm⟩
  | .dict ds, _, _, h, r => by
    cases h with
    | dct e ha =>
      rename_i a kvs
      cases r
      obtain ⟨_, hsys, vs, rel, o, es, ep, h1, h2, h3, _, pr, _⟩ := (show ObjOk X.prog X.w H s.heap a (.dK kvs) from I.hok a _ e)
      obtain ⟨as, bs, q1, m1, q2, m2⟩ := Da.readsKv I ds kvs vs es.toList ha rel pr
      refine ⟨_, Reads.dict h1 h2.1 h3 q1 q2, fun z => ?_⟩
      rw [List.cons_append] at z
      rcases List.mem_cons.mp z with q | q
      · exact beq_eq_false_iff_ne.mp hsys q.symm
      · rcases List.mem_append.mp q with q | q
        · exact m1 q
        · exact m2 q
theorem Da.readsAll {n : Addr} (I : Inv X pins σ H s) : ∀ (ds : List PyData) (vs : List V) (us : List Value), DaAll n H vs ds → Vals vs us → ∃ as, ReadsAll s.heap us ds as ∧ sysModules ∉ as
  | [], _, _, h, r => by
    cases h
    cases r
    exact ⟨_, ReadsAll.nil, List.not_mem_nil⟩
  | d :: ds, _, _, h, r => by
    cases h with
    | cons h1 h2 =>
      cases r with
      | cons r1 r2 =>
        obtain ⟨as, q1, m1⟩ := Da.reads I d _ _ h1 r1
        obtain ⟨bs, q2, m2⟩ := Da.readsAll I ds _ _ h2 r2
        refine ⟨_, ReadsAll.cons q1 q2, fun z => ?_⟩
        rcases List.mem_append.mp z with q | q
        · exact m1 q
        · exact m2 q
theorem Da.readsKv {n : Addr} (I : Inv X pins σ H s) : ∀ (ds : List (PyData × PyData)) (kvs : List (Key × V)) (vs : List (Key × Value)) (es : List DictEntry), DaKv n H kvs ds → KV kvs vs → Pairs (mixKind X.prog X.w) es vs →
    ∃ as bs, ReadsAll s.heap (es.map (·.key)) (ds.map (·.1)) as ∧ sysModules ∉ as ∧ ReadsAll s.heap (es.map (·.val)) (ds.map (·.2)) bs ∧ sysModules ∉ bs
  | [], _, _, _, h, r, p => by
    cases h
    cases r
    cases p
    exact ⟨_, _, ReadsAll.nil, List.not_mem_nil, ReadsAll.nil, List.not_mem_nil⟩
  | (_, d) :: ds, _, _, _, h, r, p => by
    cases h with
    | cons h1 h2 =>
      cases r with
      | cons r1 r2 =>
        cases p with
        | cons p1 p2 p3 =>
          obtain ⟨as, bs, q1, m1, q2, m2⟩ := Da.readsKv I ds _ _ _ h2 r2 p3
          obtain ⟨cs, q3, m3⟩ := Da.reads I d _ _ h1 r1.2
          refine ⟨_, _, ReadsAll.cons (key_reads (by have e := r1.1; simp only at e; show keyIs _ _ = true; rw [e]; exact p1)) q1, ?_, ReadsAll.cons (by show Reads s.heap (DictEntry.val _) d _; rw [p2]; exact q3) q2, fun z => ?_⟩
          · rw [List.nil_append]
            exact m1
          · rcases List.mem_append.mp z with q | q
            · exact m3 q
            · exact m2 q
end
end
/-- data that repr writes: at most w by weight, nested at most k deep -/
structure Sm (d : PyData) (w k : Nat) : Prop where
  sh : d.showable = true
  dp : d.depth ≤ k
  lv : d.leavesShort 100 = true
  wt : d.weight ≤ w
theorem Sm.mono {d : PyData} {w v k m : Nat} (h : Sm d w k) (hw : w ≤ v) (hk : k ≤ m) : Sm d v m := ⟨h.sh, Nat.le_trans h.dp hk, h.lv, Nat.le_trans h.wt hw⟩
/-- each of them -/
def SmE (ds : List PyData) (k : Nat) : Prop := ∀ d ∈ ds, d.showable = true ∧ d.depth ≤ k ∧ d.leavesShort 100 = true
theorem smE_iff : ∀ (ds : List PyData) (k : Nat), SmE ds k ↔ PyData.showableAll ds = true ∧ PyData.depthAll ds ≤ k ∧ PyData.leavesShortAll 100 ds = true
  | [], k => by
    refine ⟨fun _ => ⟨rfl, Nat.zero_le _, rfl⟩, fun _ d h => absurd h List.not_mem_nil⟩
  | d :: ds, k => by
    have ih := smE_iff ds k
    constructor
    · intro h
      have h1 := h d List.mem_cons_self
      have h2 := ih.mp fun e he => h e (List.mem_cons_of_mem _ he)
      refine ⟨?_, ?_, ?_⟩
      · simp only [PyData.showableAll, h1.1, h2.1, Bool.and_self]
      · simp only [PyData.depthAll]
        omega
      · simp only [PyData.leavesShortAll, h1.2.2, h2.2.2, Bool.and_self]
    · rintro ⟨h1, h2, h3⟩ e he
      simp only [PyData.showableAll, Bool.and_eq_true] at h1
      simp only [PyData.depthAll] at h2
      simp only [PyData.leavesShortAll, Bool.and_eq_true] at h3
      rcases List.mem_cons.mp he with rfl | he
      · exact ⟨h1.1, by omega, h3.1⟩
      · exact ih.mpr ⟨h1.2, by omega, h3.2⟩ e he
theorem smE_iff_depth : ∀ (ds : List PyData) (k : Nat), PyData.depthAll ds ≤ k ↔ ∀ d ∈ ds, d.depth ≤ k
  | [], k => ⟨fun _ d h => absurd h List.not_mem_nil, fun _ => Nat.zero_le _⟩
  | d :: ds, k => by
    have ih := smE_iff_depth ds k
    simp only [PyData.depthAll]
    constructor
    · intro h e he
      rcases List.mem_cons.mp he with rfl | he
      · omega
      · exact ih.mp (by omega) e he
    · intro h
      have h1 := h d List.mem_cons_self
      have h2 := ih.mpr fun e he => h e (List.mem_cons_of_mem _ he)
      omega
theorem wt_app : ∀ xs ys : List PyData, PyData.weightAll (xs ++ ys) = PyData.weightAll xs + PyData.weightAll ys
  | [], ys => by simp [PyData.weightAll]
  | x :: xs, ys => by
    rw [List.cons_append]
    simp only [PyData.weightAll, wt_app xs ys]
    omega
theorem wt_len : ∀ xs : List PyData, xs.length ≤ PyData.weightAll xs
  | [] => by simp [PyData.weightAll]
  | x :: xs => by
    have := wt_len xs
    simp only [PyData.weightAll, List.length_cons]
    omega
theorem wt_mem : ∀ {xs : List PyData} {d : PyData}, d ∈ xs → d.weight + 1 ≤ PyData.weightAll xs
  | [], d, h => absurd h List.not_mem_nil
  | x :: xs, d, h => by
    simp only [PyData.weightAll]
    rcases List.mem_cons.mp h with rfl | h
    · omega
    · have := wt_mem h
      omega
theorem Sm.tup {ds : List PyData} {w k : Nat} (h : SmE ds k) (hw : PyData.weightAll ds ≤ w) : Sm (.tuple ds) w (k + 1) := by
  obtain ⟨a, b, c⟩ := (smE_iff ds k).mp h
  refine ⟨?_, ?_, ?_, ?_⟩
  · simpa only [PyData.showable] using a
  · simp only [PyData.depth]
    omega
  · simpa only [PyData.leavesShort] using c
  · simpa only [PyData.weight] using hw
theorem Sm.lst {ds : List PyData} {w k : Nat} (h : SmE ds k) (hw : PyData.weightAll ds ≤ w) : Sm (.list ds) w (k + 1) := by
  obtain ⟨a, b, c⟩ := (smE_iff ds k).mp h
  refine ⟨?_, ?_, ?_, ?_⟩
  · simpa only [PyData.showable] using a
  · simp only [PyData.depth]
    omega
  · simpa only [PyData.leavesShort] using c
  · simpa only [PyData.weight] using hw
theorem Sm.of_tup {ds : List PyData} {w k : Nat} (h : Sm (.tuple ds) w k) : ∃ j, k = j + 1 ∧ SmE ds j ∧ PyData.weightAll ds ≤ w := by
  obtain ⟨a, b, c, e⟩ := h
  simp only [PyData.showable] at a
  simp only [PyData.depth] at b
  simp only [PyData.leavesShort] at c
  simp only [PyData.weight] at e
  refine ⟨k - 1, by omega, (smE_iff ds _).mpr ⟨a, by omega, c⟩, e⟩
theorem Sm.int {i : Int} (h : i.natAbs < 10 ^ 90) : Sm (.int i) 310 0 := by
  have s := Small.int h
  exact ⟨s.sh, s.dp, s.lv, s.wt⟩
theorem Sm.bool (b : Bool) : Sm (.bool b) 0 0 := ⟨rfl, Nat.le_refl _, rfl, Nat.le_refl _⟩
theorem Sm.none : Sm .none 0 0 := ⟨rfl, Nat.le_refl _, rfl, Nat.le_refl _⟩
theorem Sm.e {d : PyData} {w k : Nat} (h : Sm d w k) : d.showable = true ∧ d.depth ≤ k ∧ d.leavesShort 100 = true := ⟨h.sh, h.dp, h.lv⟩
theorem Sm.dict0 : Sm (.dict []) 0 1 := ⟨rfl, by decide, rfl, Nat.le_refl _⟩
theorem Sm.dict1 {x : Str} {d : PyData} {w v k : Nat} (hx : Sm (.str x) v k) (h : Sm d w k) : Sm (.dict [(.str x, d)]) (v + w + 2) (k + 1) := by
  have a := hx.wt
  have b := h.wt
  have c := hx.dp
  have e := h.dp
  refine ⟨?_, ?_, ?_, ?_⟩
  · simp only [PyData.showable, PyData.showableKv, h.sh, Bool.and_self]
  · simp only [PyData.depth, PyData.depthKv]
    omega
  · have e1 := hx.lv
    simp only [PyData.leavesShort, PyData.leavesShortKv] at e1 ⊢
    rw [e1, h.lv]
    rfl
  · simp only [PyData.weight, PyData.weightKv] at a ⊢
    omega
theorem Sm.long {d : PyData} {w k : Nat} (h : Sm d w k) (hw : w ≤ 150000) : d.shown.length ≤ sizeLine := by
  have e := PyData.shown_le 100 (by decide) d h.lv
  have := h.wt
  rw [sizeLine_eq]
  have : (100 + 2) * d.weight ≤ (100 + 2) * 150000 := Nat.mul_le_mul_left _ (Nat.le_trans h.wt hw)
  omega
section
variable {X : Cx}
/-- isinstance(x, T), x data -/
theorem call_isiD : CallR X (.builtin "isinstance") (fun xs H Q => ∃ n v d T b, xs = [v, .ty T] ∧ Da n H v d ∧ kitB (tyD d) T = some b ∧ Q (.bl b) H) := by
  intro pins s σ H xs us Q I r h
  obtain ⟨n, v, d, T, b, rfl, hd, hk, q⟩ := h
  exact call_isi pins s σ H _ us Q I r ⟨v, .ty T, _, _, b, rfl, .ty T, hd.ty, kit_ty hk, q⟩
/-- repr(x), x data -/
theorem call_reprA (hG : X.A.guards = some []) (hu : X.A.units + 64 < cLine) : CallR X (.builtin "repr") (fun xs H Q => ∃ n v d w k, xs = [v] ∧ Da n H v d ∧ Sm d w k ∧ w ≤ 150000 ∧ k ≤ 60 ∧ Q (.str d.shown) H) := by
  intro pins s σ H xs us Q I r h
  obtain ⟨n, v, d, w, k, rfl, hd, S, hw, hk, q⟩ := h
  obtain ⟨u, rfl, ru⟩ := vals1 r
  have hz := S.long hw
  have hsh := S.sh
  cases v with
  | ref a =>
    obtain ⟨as, rd, nm⟩ := Da.reads I d _ u hd ru
    cases ru
    have hn := S.dp
    exact repr_of_reads' rd S.sh (fun _ => nm) hG (by omega) (fun _ _ z => z) (fun h' u tk hk => ⟨.str _, H, I.kept hk, ⟨_, rfl⟩, q⟩) hz
  | non =>
    cases hd
    cases ru
    exact P.repr_of_none ⟨.str "None", H, I.tok _, ⟨_, rfl⟩, q⟩
  | bl b =>
    cases hd
    cases ru
    exact P.repr_of_bool ⟨.str (if b then "True" else "False"), H, I.tok _, ⟨_, rfl⟩, q⟩
  | int i =>
    cases hd
    obtain ⟨t, rfl⟩ := ru
    simp only [PyData.showable, decide_eq_true_eq] at hsh
    exact P.repr_of_int hsh ⟨.str (toString i), H, I.tok _, ⟨_, rfl⟩, q⟩
  | str x =>
    cases hd
    obtain ⟨t, rfl⟩ := ru
    exact P.repr_of_str ⟨.str (reprText x), H, I.tok _, ⟨_, rfl⟩, q⟩ hz
  | _ => cases hd
/-- t == (), t any tuple -/
theorem op_eq0 (hu : X.A.units < cLine) : OpR X (compareOp .Eq) (fun x y H Q => ∃ a b xs, x = .ref a ∧ y = .ref b ∧ SqT X.K H a xs ∧ SqT X.K H b [] ∧ Q (.bl xs.isEmpty) H) := by
  intro pins s σ H x y v u Q I rx ry h
  obtain ⟨a, b, xs, rfl, rfl, ha, hb, q⟩ := h
  cases rx
  cases ry
  obtain ⟨i1, r1, p1, _⟩ := I.tuple ha
  obtain ⟨i2, r2, p2, _⟩ := I.tuple hb
  cases r2
  refine SeqAt.eq_tupleAt (e := fun _ => true) p1 p2 hu (fun j h1 h2 => absurd h2 (by simp)) ?_
  refine ⟨.bl xs.isEmpty, H, I, ?_, q⟩
  have e := r1.length
  cases xs with
  | nil =>
    cases r1
    rfl
  | cons z zs =>
    cases r1
    simp [L2.RelV]
/-- x is y, x is not y, of truths -/
theorem op_isB : OpR X (compareOp .Is) (fun x y H Q => ∃ a b, x = .bl a ∧ y = .bl b ∧ Q (.bl (a == b)) H) := by
  intro pins s σ H x y v u Q I rx ry h
  obtain ⟨a, b, rfl, rfl, q⟩ := h
  cases rx
  cases ry
  exact wpAny_pure ⟨.bl (a == b), H, I, by cases a <;> cases b <;> rfl, q⟩
theorem op_isnotB : OpR X (compareOp .IsNot) (fun x y H Q => ∃ a b, x = .bl a ∧ y = .bl b ∧ Q (.bl (!(a == b))) H) := by
  intro pins s σ H x y v u Q I rx ry h
  obtain ⟨a, b, rfl, rfl, q⟩ := h
  cases rx
  cases ry
  exact wpAny_pure ⟨.bl (!(a == b)), H, I, by cases a <;> cases b <;> rfl, q⟩
/-- t != (), t any tuple -/
theorem op_ne0 (hu : X.A.units < cLine) : OpR X (compareOp .NotEq) (fun x y H Q => ∃ a b xs, x = .ref a ∧ y = .ref b ∧ SqT X.K H a xs ∧ SqT X.K H b [] ∧ Q (.bl (!xs.isEmpty)) H) := by
  intro pins s σ H x y v u Q I rx ry h
  obtain ⟨a, b, xs, rfl, rfl, ha, hb, q⟩ := h
  cases rx
  cases ry
  obtain ⟨i1, r1, p1, _⟩ := I.tuple ha
  obtain ⟨i2, r2, p2, _⟩ := I.tuple hb
  cases r2
  refine SeqAt.RcNeAt.tuples (e := fun _ => true) p1 p2 hu (fun j h1 h2 => absurd h2 (by simp)) X.prog X.w X.xe _ ?_
  refine ⟨.bl (!xs.isEmpty), H, I, ?_, q⟩
  cases xs with
  | nil =>
    cases r1
    rfl
  | cons z zs =>
    cases r1
    simp [L2.RelV]
/-- a written list stands apart from what the machine keeps by itself -/
def tLstN (t : TA) : TE := fun σ H Q => t σ H fun xs H1 => xs.length ≤ sizeLine ∧ ∀ p, H1 p = none → p ≠ sysModules → Q (.ref p) (upd H1 p (.lst xs))
theorem pe_lstN {es : List Expr} {pos : Pos} {t : TA} (h : PA X es t) : PE X (.List es pos) (tLstN t) := by
  refine ⟨fun pins s σ H Q I hq => ?_⟩
  refine wpAny_List_spliced (thn (h.run pos pins s σ H _ I hq) fun us s1 ⟨xs, H1, I1, r, z, q⟩ => ⟨by rw [← r.length]; exact z, ?_⟩)
  have hf : H1 s1.heap.objs.size = none := I1.hok.fresh (Nat.le_refl _)
  refine ⟨.ref s1.heap.objs.size, upd H1 s1.heap.objs.size (.lst xs), I1.laid (t' := s1.toks) (fun b u e => Heap.get?_push_of_some _ e) (Nat.le_refl _) ?_, rfl, q _ hf (Nat.ne_of_gt I1.big)⟩
  exact ⟨z, us, 0, r, Heap.get?_push_size _ rfl⟩
/-- list(t), t a tuple -/
theorem call_list_ofN : CallR X (.type "list") (fun xs H Q => ∃ p ys, xs = [.ref p] ∧ SqT X.K H p ys ∧ ∀ l, H l = none → l ≠ sysModules → Q (.ref l) (upd H l (.lst ys))) := by
  intro pins s σ H xs us Q I r h
  obtain ⟨p, ys, rfl, hq, q⟩ := h
  obtain ⟨u, rfl, rx⟩ := vals1 r
  cases rx
  have fin : ∀ (its : List Value), Vals ys its → ys.length ≤ sizeLine → ∀ (h' : Heap) (c' : Nat), (∀ b o', s.heap.get? b = some o' → h'.get? b = some o') →
      h'.get? s.heap.objs.size = some { cls := .type "list", dict := none, data := .seq its.toArray c', slots := #[] } → EP X pins σ Q (.ref s.heap.objs.size) { s with heap := h' } := fun its r' hz h' c' kp e =>
    ⟨.ref s.heap.objs.size, _, I.laid (t' := s.toks) kp (Nat.le_refl _) (show ObjOk X.prog X.w _ h' _ (.lst ys) from ⟨hz, its, c', r', e⟩), rfl, q _ (I.hok.fresh (Nat.le_refl _)) (Nat.ne_of_gt I.big)⟩
  obtain ⟨its, r', pl, hz⟩ := I.tuple hq
  have hlen := r'.length
  obtain ⟨o, ho, hc, n, hd⟩ := pl
  exact call_list_seq p (.inr rfl) ho hc hd (fun h' c' kp e => fin its r' hz h' c' kp e) (by simp only [List.size_toArray] <;> omega)
end
/-- two ways that come to the same -/
theorem join2 {c : Bool} {A B : VK → Prop} {Q : VK} (R : V → Hp → Prop) (hA : ∀ Q' : VK, (∀ v H, R v H → Q' v H) → A Q') (hB : ∀ Q' : VK, (∀ v H, R v H → Q' v H) → B Q') (hQ : ∀ v H, R v H → Q v H) : if c = true then A Q else B Q := by
  cases c
  · exact iteF (hB Q hQ)
  · exact iteT (hA Q hQ)
theorem inV_int2 (i j k : Int) : inV (V.int i) [V.int j, V.int k] = (decide (i = j) || decide (i = k)) := by
  rw [Bool.eq_iff_iff]
  simp only [inV, eqV, List.any_cons, List.any_nil, Bool.or_false, Bool.or_eq_true, beq_iff_eq, decide_eq_true_eq]
  constructor
  · rintro (h | h)
    · exact .inl h.symm
    · exact .inr h.symm
  · rintro (h | h)
    · exact .inl h.symm
    · exact .inr h.symm
theorem inV_str2 (z x y : Str) : inV (V.str z) [V.str x, V.str y] = (decide (z = x) || decide (z = y)) := by
  rw [Bool.eq_iff_iff]
  simp only [inV, eqV, List.any_cons, List.any_nil, Bool.or_false, Bool.or_eq_true, beq_iff_eq, decide_eq_true_eq]
  constructor
  · rintro (h | h)
    · exact .inl h.symm
    · exact .inr h.symm
  · rintro (h | h)
    · exact .inl h.symm
    · exact .inr h.symm
theorem wipe1 {σ : L2.St} {k : Nat} {v : Option V} {n : Str} : wipe ((wipe σ ([(n, k)].map (·.2))).set k v) ([(n, k)].map (·.2)) = wipe σ ([(n, k)].map (·.2)) := by
  show ((σ.set k none).set k v).set k none = σ.set k none
  rw [List.set_set, List.set_set]
end NB

set_option Elab.async false
set_option linter.all false
set_option maxRecDepth 100000
namespace K70
open PySem PySem.Spec PyProof.Rows L2 NB
def topS (i : Nat) : Stmt := PySem.Challenge.pw_notbothout_k70_written_and_read.main.body.getD i (.Pass ⟨0, 0, 0, 0⟩)

/-- all that was tracked stands, but for what is at a -/
def But (a : Addr) (H H' : Hp) : Prop := ∀ b o, b ≠ a → H b = some o → H' b = some o
theorem But.of {a : Addr} {H H' : Hp} (h : Same H H') : But a H H' := fun b o _ e => h b o e
theorem But.trans {a : Addr} {H H1 H2 : Hp} (h : But a H H1) (h' : But a H1 H2) : But a H H2 := fun b o n e => h' b o n (h b o n e)
theorem But.seq {K : PySem.W.Frag} {a l : Addr} {H H' : Hp} {xs : List V} (h : But a H H') (n : l ≠ a) (q : SqL K H l xs) : SqL K H' l xs := by
  rcases q with (q | ⟨o, q⟩) | q
  · exact .inl (.inl (h _ _ n q))
  · exact .inl (.inr ⟨o, h _ _ n q⟩)
  · exact .inr q
theorem But.tup {K : PySem.W.Frag} {a l : Addr} {H H' : Hp} {xs : List V} (h : But a H H') (n : l ≠ a) (q : SqT K H l xs) : SqT K H' l xs := by
  rcases q with (q | ⟨o, q⟩) | q
  · exact .inl (.inl (h _ _ n q))
  · exact .inl (.inr ⟨o, h _ _ n q⟩)
  · exact .inr q
theorem sameT {K : PySem.W.Frag} {l : Addr} {H H' : Hp} {xs : List V} (h : Same H H') (q : SqT K H l xs) : SqT K H' l xs := by
  rcases q with (q | ⟨o, q⟩) | q
  · exact .inl (.inl (h _ _ q))
  · exact .inl (.inr ⟨o, h _ _ q⟩)
  · exact .inr q
theorem same_new {H : Hp} {p : Addr} {o : HO} (h : H p = none) : Same H (upd H p o) := fun b x e => by
  rw [upd_ne (ne_of_none e h)]
  exact e
/-- a cell that was free and is written stands apart from what was -/
theorem same_over {H H' : Hp} {p : Addr} {o : HO} (h : Same H H') (n : H p = none) : Same H (upd H' p o) := fun b x e => by
  rw [upd_ne (ne_of_none e n)]
  exact h b x e

theorem mapGet {α β : Type} {f : α → β} {xs : List α} {i : Nat} {y : β} (h : (xs.map f)[i]? = some y) : ∃ x, xs[i]? = some x ∧ y = f x := by
  rw [List.getElem?_map] at h
  cases e : xs[i]? with
  | none => rw [e] at h; cases h
  | some x => rw [e] at h; exact ⟨x, rfl, (Option.some.inj h).symm⟩

theorem take_map {α β : Type} (f : α → β) (xs : List α) (i : Nat) (y : α) (h : xs[i]? = some y) : (xs.take (i + 1)).map f = (xs.take i).map f ++ [f y] := by
  rw [List.take_add_one, h, List.map_append]
  rfl
theorem take_small {α : Type} {xs : List α} {i : Nat} (h : xs.length ≤ 1000) {β : Type} (f : α → β) : ((xs.take i).map f).length < sizeLine := by
  rw [List.length_map, List.length_take]
  exact Nat.lt_of_le_of_lt (Nat.min_le_right _ _) (small1000 h)

abbrev sPot : Stmt := topS 55
abbrev sTake : Stmt := topS 56
abbrev sOf : Stmt := topS 57
abbrev sStand : Stmt := topS 58
theorem scPot : FnScope ["_law_script", "_law_k", "_law_cell", "_law_great"] ["_law_script", "_law_k"] (defScope sPot) := ⟨rfl, rfl, rfl, by decide +kernel, rfl, by decide +kernel, by decide +kernel⟩
theorem scTake : FnScope ["_law_pot_here", "_law_many", "_law_digit", "_law_prime", "_law_mixed"] ["_law_pot_here", "_law_many"] (defScope sTake) := ⟨rfl, rfl, rfl, by decide +kernel, rfl, by decide +kernel, by decide +kernel⟩
theorem scOf : FnScope ["_law_pot_here", "_law_some"] ["_law_pot_here", "_law_some"] (defScope sOf) := ⟨rfl, rfl, rfl, by decide +kernel, rfl, by decide +kernel, by decide +kernel⟩
theorem scStand : FnScope ["_law_pot_here", "_law_tops", "_law_top"] ["_law_pot_here", "_law_tops"] (defScope sStand) := ⟨rfl, rfl, rfl, by decide +kernel, rfl, by decide +kernel, by decide +kernel⟩

/-- a pot out of which at most c numbers were taken by reckoning -/
def PotAt (H : Hp) (a : Addr) (c : Nat) : Prop := ∃ p q r : Int, H a = some (.lst [.int p, .int q, .int r]) ∧ 0 ≤ p ∧ 0 ≤ r ∧ r ≤ c
theorem PotAt.mono {H : Hp} {a : Addr} {c d : Nat} (h : PotAt H a c) (le : c ≤ d) : PotAt H a d := by
  obtain ⟨p, q, r, e, h1, h2, h3⟩ := h
  exact ⟨p, q, r, e, h1, h2, by omega⟩
theorem PotAt.keep {H H' : Hp} {a : Addr} {c : Nat} (h : PotAt H a c) (s : Same H H') : PotAt H' a c := by
  obtain ⟨p, q, r, e, h1, h2, h3⟩ := h
  exact ⟨p, q, r, s _ _ e, h1, h2, h3⟩
theorem PotAt.ne {H : Hp} {a b : Addr} {c : Nat} (h : PotAt H a c) (n : H b = none) : b ≠ a := by
  obtain ⟨p, q, r, e, _⟩ := h
  exact (ne_of_none e n).symm
theorem But.free {a b : Addr} {H H' : Hp} (h : But a H H') (ne : b ≠ a) (n : H' b = none) : H b = none := by
  cases e : H b with
  | none => rfl
  | some o =>
    rw [h b o ne e] at n
    cases n
theorem but_new {a p : Addr} {H H' : Hp} {o : HO} (h : But a H H') (n : H p = none) : But a H (upd H' p o) := fun b x ne e => by
  rw [upd_ne (ne_of_none e n)]
  exact h b x ne e
theorem but_at {a : Addr} {H H' : Hp} {o : HO} (h : But a H H') : But a H (upd H' a o) := fun b x ne e => by
  rw [upd_ne ne]
  exact h b x ne e

theorem prime_at (j : Int) (h0 : 0 ≤ j) (h4 : j < 4) : ∃ pr : Int, atI [V.int 2305843009213693951, V.int 999999999989, V.int 1000000000039, V.int 67280421310721] j = some (.int pr) ∧ 0 < pr ∧ pr < 2 ^ 62 := by
  have : j = 0 ∨ j = 1 ∨ j = 2 ∨ j = 3 := by omega
  rcases this with rfl | rfl | rfl | rfl
  · exact ⟨_, atI_nat (j := 0) rfl, by decide, by decide⟩
  · exact ⟨_, atI_nat (j := 1) rfl, by decide, by decide⟩
  · exact ⟨_, atI_nat (j := 2) rfl, by decide, by decide⟩
  · exact ⟨_, atI_nat (j := 3) rfl, by decide, by decide⟩

section
variable {P : Program} {w : World} {K : PySem.W.Frag} {mg : Str → Option Value} {base : Heap}

def spPot (K : PySem.W.Frag) : Sp := fun vs H Q _ => ∃ (a : Addr) (ns : List Int) (k : Nat), vs = [.ref a, .int k] ∧ SqL K H a (ns.map V.int) ∧ k ≤ 1000 ∧
  ∀ H' p, Same H H' → H p = none → PotAt H' p 0 → Q (.ref p) H'
theorem ok_pot {f : Addr} {fd : FuncData} {k : Nat} (F : Fun K "_law_pot" "_law_pot" sPot f fd) (ml : mg "len" = none) (ma : mg "abs" = none) (mi : mg "int" = none) : FnOk P w K mg base CX0 (k + 1) f fd ["_law_script", "_law_k"] (spPot K) := by
  refine F.ok scPot (fun vs H Q E h => ?_) (fun cdv A outer s H vs Q E hr h => ?_)
  · obtain ⟨a, ns, k, rfl, _⟩ := h
    rfl
  · obtain ⟨a, ns, k, rfl, hS, hk, q⟩ := h
    refine ⟨_, pss_cons (ps_set (i := 2) scPot.nd rfl (.inl rfl) (pe_ifExp (pt_cmpR op_lt (pv 1) (pe_callB call_len_seq (by rfl) ml PySem.boot_len (pa_cons (pv 0) pa_nil)) (nomark _)) (pe_ix ix_list (pv 0) (pv 1) (fun _ _ => rfl)) (pe_op op_add (pe_op op_mul pe_int (pv 1)) pe_int)))
      (pss_cons (ps_set (i := 3) scPot.nd rfl (.inl rfl) (pe_op op_mul (pe_op op_mod (pe_callB call_abs (by rfl) ma (by decide +kernel) (pa_cons (pv 2) pa_nil)) (pe_op op_powW (pe_op op_pow pe_int pe_int) pe_int))
          (pe_callTy call_int1 (by rfl) mi (by decide +kernel) (pa_cons (pe_cmpR op_ge (pe_callB call_abs (by rfl) ma (by decide +kernel) (pa_cons (pv 2) pa_nil)) (pe_op op_pow pe_int pe_int) (nomark _)) pa_nil))))
      (pss_one (ps_ret (pe_lst (pa_cons (pv 3) (pa_cons (pe_op op_mod (pe_op op_mul (pe_op op_add (pe_op op_add (pe_op op_mod (pv 2) pe_int) (pe_op op_mul (pe_op op_mul pe_int (pv 1)) (pv 1))) pe_int) pe_int) pe_int) (pa_cons pe_int pa_nil))))))), ?_⟩
    have k1 : -(2 ^ 64) < (k : Int) ∧ (k : Int) < 2 ^ 64 := by omega
    have big : (0 : Int) < (10 ^ (60 : Int).toNat) ^ (5 : Int).toNat := by decide +kernel
    have one : ∀ b : Bool, -(2 ^ 64) < (if b = true then (1 : Int) else 0) ∧ (if b = true then (1 : Int) else 0) < 2 ^ 64 := fun b => by cases b <;> decide
    have nn : ∀ (x : Int) (b : Bool), 0 ≤ x % (10 ^ (60 : Int).toNat) ^ (5 : Int).toNat * (if b = true then (1 : Int) else 0) := fun x b => Int.mul_nonneg (Int.emod_nonneg _ (Int.ne_of_gt big)) (by cases b <;> decide)
    refine ⟨.int k, rfl, .ref a, rfl, a, _, rfl, .inl hS, _, _, rfl, rfl, _, rfl, ite2 (fun c => ?_) (fun c => ?_)⟩
    · have c' := of_decide_eq_true c
      rw [List.length_map] at c'
      have lt : k < ns.length := by omega
      refine ⟨.ref a, rfl, .int k, rfl, a, _, k, .int ns[k], rfl, rfl, hS, atI_nat (by rw [List.getElem?_map, List.getElem?_eq_getElem lt]; rfl), ?_⟩
      refine ⟨.int ns[k], rfl, _, rfl, 10, 60, rfl, rfl, ⟨by decide, by decide, by decide⟩, _, 5, rfl, rfl, ⟨by decide, by decide +kernel⟩, _, _, rfl, rfl, big, .int ns[k], rfl, _, rfl, 10, 18, rfl, rfl, ⟨by decide, by decide, by decide⟩, _, _, rfl, rfl, .inr ⟨_, rfl, _, _, rfl, rfl, .inr (one _), ?_⟩⟩
      refine ⟨_, rfl, .int ns[k], rfl, _, 2305843009213693951, rfl, rfl, (show (0 : Int) < 2305843009213693951 by decide), .int k, rfl, 7919, k, rfl, rfl, .inl ⟨by decide, by decide⟩, .int k, rfl, _, k, rfl, rfl, .inr k1, _, _, rfl, rfl, _, 17, rfl, rfl, _, 48271, rfl, rfl, .inr ⟨by decide, by decide⟩, _, 2305843009213693921, rfl, rfl, (show (0 : Int) < 2305843009213693921 by decide), (show 3 ≤ sizeLine by decide), fun p np => ?_⟩
      exact q _ p (same_new np) np ⟨_, _, 0, upd_same, nn _ _, Int.le_refl _, Int.le_refl _⟩
    · refine ⟨.int k, rfl, 7, _, rfl, rfl, .inl ⟨by decide, by decide⟩, _, 3, rfl, rfl, ?_⟩
      refine ⟨_, rfl, _, rfl, 10, 60, rfl, rfl, ⟨by decide, by decide, by decide⟩, _, 5, rfl, rfl, ⟨by decide, by decide +kernel⟩, _, _, rfl, rfl, big, _, rfl, _, rfl, 10, 18, rfl, rfl, ⟨by decide, by decide, by decide⟩, _, _, rfl, rfl, .inr ⟨_, rfl, _, _, rfl, rfl, .inr (one _), ?_⟩⟩
      refine ⟨_, rfl, _, rfl, _, 2305843009213693951, rfl, rfl, (show (0 : Int) < 2305843009213693951 by decide), .int k, rfl, 7919, k, rfl, rfl, .inl ⟨by decide, by decide⟩, .int k, rfl, _, k, rfl, rfl, .inr k1, _, _, rfl, rfl, _, 17, rfl, rfl, _, 48271, rfl, rfl, .inr ⟨by decide, by decide⟩, _, 2305843009213693921, rfl, rfl, (show (0 : Int) < 2305843009213693921 by decide), (show 3 ≤ sizeLine by decide), fun p np => ?_⟩
      exact q _ p (same_new np) np ⟨_, _, 0, upd_same, nn _ _, Int.le_refl _, Int.le_refl _⟩

/-- a drawn number -/
def spTake : Sp := fun vs H Q _ => ∃ (a : Addr) (m : Int) (c : Nat), vs = [.ref a, .int m] ∧ PotAt H a c ∧ 1 ≤ m ∧ m < 2 ^ 200 ∧ c < 1000000 ∧
  ∀ (d : Int) H', But a H H' → PotAt H' a (c + 1) → 0 ≤ d → d < m → Q (.int d) H'
theorem ok_take {f : Addr} {fd : FuncData} {k : Nat} (F : Fun K "_law_take" "_law_take" sTake f fd) : FnOk P w K mg base CX0 (k + 1) f fd ["_law_pot_here", "_law_many"] spTake := by
  refine F.ok scTake (fun vs H Q E h => ?_) (fun cdv A outer s H vs Q E hr h => ?_)
  · obtain ⟨a, m, c, rfl, _⟩ := h
    rfl
  · obtain ⟨a, m, c, rfl, ⟨p0, p1, p2, ea, n0, n2, l2⟩, m1, m2, hc, q⟩ := h
    refine ⟨_, pss_cons (ps_if (pt_cmpR op_gt (pe_ix ix_list (pv 0) pe_int (fun _ _ => rfl)) pe_int (nomark _))
        (pss_cons (ps_set (i := 2) scTake.nd rfl (.inl rfl) (pe_op op_mod (pe_ix ix_list (pv 0) pe_int (fun _ _ => rfl)) (pv 1)))
        (pss_cons (ps_asg (pe_op op_fdivW (pe_ix ix_list (pv 0) pe_int (fun _ _ => rfl)) (pv 1)) (pg_sub (pv 0) pe_int set_list))
        (pss_one (ps_ret (pv 2))))) pss_nil)
      (pss_cons (ps_asg (pe_op op_add (pe_ix ix_list (pv 0) pe_int (fun _ _ => rfl)) pe_int) (pg_sub (pv 0) pe_int set_list))
      (pss_cons (ps_set (i := 3) scTake.nd rfl (.inl rfl) (pe_ix ix_list (pe_lst (pa_cons pe_int (pa_cons pe_int (pa_cons pe_int (pa_cons pe_int pa_nil))))) (pe_op op_mod (pe_ix ix_list (pv 0) pe_int (fun _ _ => rfl)) pe_int) (fun _ _ => rfl)))
      (pss_cons (ps_set (i := 4) scTake.nd rfl (.inl rfl) (pe_op op_mod (pe_op op_add (pe_op op_add (pe_ix ix_list (pv 0) pe_int (fun _ _ => rfl)) (pe_op op_mul (pe_op op_mul pe_int (pe_ix ix_list (pv 0) pe_int (fun _ _ => rfl))) (pe_ix ix_list (pv 0) pe_int (fun _ _ => rfl)))) (pe_op op_mul pe_int (pe_ix ix_list (pv 0) pe_int (fun _ _ => rfl)))) (pv 3)))
      (pss_cons (ps_set (i := 4) scTake.nd rfl (.inl rfl) (pe_op op_mod (pe_op op_pow (pv 4) pe_int) (pv 3)))
      (pss_one (ps_ret (pe_op op_mod (pe_op op_add (pe_op op_fdiv (pv 4) pe_int) (pe_op op_mul (pe_op op_fdiv (pv 4) pe_int) pe_int)) (pv 1)))))))), ?_⟩
    have mpos : (0 : Int) < m := by omega
    refine ⟨.ref a, rfl, a, _, 0, .int p0, rfl, rfl, .inl (.inl ea), atI_nat (j := 0) rfl, _, 0, rfl, rfl, _, rfl, ite2 (fun _ => ?_) (fun _ => ?_)⟩
    · refine ⟨.ref a, rfl, a, _, 0, .int p0, rfl, rfl, .inl (.inl ea), atI_nat (j := 0) rfl, .int m, rfl, p0, m, rfl, rfl, mpos, ?_⟩
      refine ⟨.ref a, rfl, a, _, 0, .int p0, rfl, rfl, .inl (.inl ea), atI_nat (j := 0) rfl, .int m, rfl, p0, m, rfl, rfl, wide_div (b := 200) mpos (by omega) (by decide) (by decide), ?_⟩
      refine ⟨.ref a, rfl, a, _, 0, 0, rfl, rfl, ea, rfl, ?_⟩
      refine ⟨.int (p0 % m), rfl, ?_⟩
      refine q _ _ (but_at (fun _ _ _ e => e)) ⟨p0 / m, p1, p2, upd_same, Int.ediv_nonneg n0 (by omega), n2, by omega⟩ (Int.emod_nonneg _ (by omega)) (Int.emod_lt_of_pos _ mpos)
    · refine ⟨.ref a, rfl, a, _, 2, .int p2, rfl, rfl, .inl (.inl ea), atI_nat (j := 2) rfl, p2, 1, rfl, rfl, ?_⟩
      refine ⟨.ref a, rfl, a, _, 2, 2, rfl, rfl, ea, rfl, ?_⟩
      obtain ⟨pr, epr, pp, pl⟩ := prime_at ((p2 + 1) % 4) (Int.emod_nonneg _ (by decide)) (Int.emod_lt_of_pos _ (by decide))
      have ea2 : (upd H a (.lst [.int p0, .int p1, .int (p2 + 1)])) a = some (.lst [.int p0, .int p1, .int (p2 + 1)]) := upd_same
      refine ⟨(show 4 ≤ sizeLine by decide), fun l nl => ?_⟩
      have nla : a ≠ l := ne_of_none ea2 nl
      have ea3 : (upd (upd H a (.lst [.int p0, .int p1, .int (p2 + 1)])) l (.lst [V.int 2305843009213693951, V.int 999999999989, V.int 1000000000039, V.int 67280421310721])) a = some (.lst [.int p0, .int p1, .int (p2 + 1)]) := (upd_ne nla).trans ea2
      refine ⟨.ref a, rfl, a, _, 2, .int (p2 + 1), rfl, rfl, .inl (.inl ea3), atI_nat (j := 2) rfl, p2 + 1, 4, rfl, rfl, (show (0 : Int) < 4 by decide), l, _, (p2 + 1) % 4, .int pr, rfl, rfl, .inl (.inl upd_same), epr, ?_⟩
      have b2 : -(2 ^ 64) < p2 + 1 ∧ p2 + 1 < 2 ^ 64 := by omega
      refine ⟨.ref a, rfl, a, _, 1, .int p1, rfl, rfl, .inl (.inl ea3), atI_nat (j := 1) rfl, .ref a, rfl, a, _, 2, .int (p2 + 1), rfl, rfl, .inl (.inl ea3), atI_nat (j := 2) rfl, 7919, p2 + 1, rfl, rfl, .inl ⟨by decide, by decide⟩, .ref a, rfl, a, _, 2, .int (p2 + 1), rfl, rfl, .inl (.inl ea3), atI_nat (j := 2) rfl, _, p2 + 1, rfl, rfl, .inr b2, _, _, rfl, rfl,
        .ref a, rfl, a, _, 2, .int (p2 + 1), rfl, rfl, .inl (.inl ea3), atI_nat (j := 2) rfl, 65537, p2 + 1, rfl, rfl, .inl ⟨by decide, by decide⟩, _, _, rfl, rfl, .int pr, rfl, _, pr, rfl, rfl, pp, ?_⟩
      have mx : ∀ e : Int, (e % pr).natAbs < 2 ^ 64 := fun e => by
        have h1 := Int.emod_nonneg e (Int.ne_of_gt pp)
        have h2 := Int.emod_lt_of_pos e pp
        omega
      refine ⟨_, rfl, _, 5, rfl, rfl, ⟨by decide, by decide, mx _⟩, .int pr, rfl, _, pr, rfl, rfl, pp, ?_⟩
      refine ⟨_, rfl, _, 4099, rfl, rfl, ⟨by decide, by decide⟩, _, rfl, _, 1000003, rfl, rfl, ⟨by decide, by decide⟩, _, 7, rfl, rfl, .inr ⟨by decide, by decide⟩, _, _, rfl, rfl, .int m, rfl, _, m, rfl, rfl, mpos, ?_⟩
      refine q _ _ ?_ ⟨p0, p1, p2 + 1, ea3, n0, by omega, by omega⟩ (Int.emod_nonneg _ (by omega)) (Int.emod_lt_of_pos _ mpos)
      exact but_new (but_at (fun _ _ _ e => e)) (by rw [upd_ne nla.symm] at nl; exact nl)
end

/-- a def that is known by its promise -/
structure Kn (P : Program) (w : World) (K : PySem.W.Frag) (mg : Str → Option Value) (base : Heap) (k : Nat) (x : Str) (ps : List Str) (sp : Sp) (f : Addr) (fd : FuncData) : Prop where
  ok : FnOk P w K mg base CX0 k f fd ps sp
  gl : mg x = some (.ref f)
  kp : PySem.W.keepIn K (.ref f) = true
  bi : Binds K fd ps []
theorem pe_kn {X : Cx} {k j : Nat} {x : Str} {ps : List Str} {sp : Sp} {f : Addr} {fd : FuncData} {p pos : Pos} {e : Expr} {es : List Expr} {t : TA} (C : Kn X.prog X.w X.K X.mg X.base k x ps sp f fd) (hr : Room j X.A) (hj : k ≤ j) (ha : PA X (e :: es) t) (hg : Gl X x := by rfl) (hdb : (x == ("__debug__" : Str)) = false := by decide)
    (he : starEach (e :: es) X.env = (false, eval e X.env) :: starEach es X.env := by rfl) (hpl : (backTo pos (starEach es X.env)).any (·.1) = false := by rfl) :
    PE X (.Call (.Name x p) (e :: es) [] pos) (tCall sp [] E0 t) := pe_call C.ok (hr.mono hj) hg C.gl C.kp C.bi .nil pass0 ha hdb he hpl

theorem But.tupP {K : PySem.W.Frag} {a t : Addr} {H H' : Hp} {c : Nat} {xs : List V} (b : But a H H') (p : PotAt H a c) (q : SqT K H t xs) : SqT K H' t xs := by
  obtain ⟨_, _, _, e, _⟩ := p
  rcases q with (q | ⟨o, q⟩) | q
  · exact .inl (.inl (b _ _ (ne_of q e (by intro z; cases z)) q))
  · exact .inl (.inr ⟨o, b _ _ (ne_of q e (by intro z; cases z)) q⟩)
  · exact .inr q
/-- places, or tops -/
def Pl (xs : List Int) : Prop := ∀ x ∈ xs, 0 ≤ x ∧ x < 10 ^ 30
theorem Pl.snoc {xs : List Int} {x : Int} (h : Pl xs) (h0 : 0 ≤ x) (h1 : x < 10 ^ 30) : Pl (xs ++ [x]) := fun y hy => by
  rcases List.mem_append.mp hy with q | q
  · exact h y q
  · rw [List.mem_singleton.mp q]
    exact ⟨h0, h1⟩

section
variable {P : Program} {w : World} {K : PySem.W.Frag} {mg : Str → Option Value} {base : Heap}

/-- one of some -/
def spOf (K : PySem.W.Frag) : Sp := fun vs H Q _ => ∃ (a l : Addr) (xs : List V) (c : Nat), vs = [.ref a, .ref l] ∧ PotAt H a c ∧ l ≠ a ∧ (SqL K H l xs ∨ SqT K H l xs) ∧ 1 ≤ xs.length ∧ xs.length ≤ 1000000 ∧ c < 1000000 ∧
  ∀ x H', x ∈ xs → But a H H' → PotAt H' a (c + 1) → Q x H'
theorem ok_of {f fT : Addr} {fd fdT : FuncData} {k : Nat} (F : Fun K "_law_of" "_law_of" sOf f fd) (T : Kn P w K mg base 1 "_law_take" ["_law_pot_here", "_law_many"] spTake fT fdT) (ml : mg "len" = none) : FnOk P w K mg base CX0 (k + 2) f fd ["_law_pot_here", "_law_some"] (spOf K) := by
  refine F.ok scOf (fun vs H Q E h => ?_) (fun cdv A outer s H vs Q E hr h => ?_)
  · obtain ⟨a, l, xs, c, rfl, _⟩ := h
    rfl
  · obtain ⟨a, l, xs, c, rfl, pa, ne, hl, l1, l2, hc, q⟩ := h
    refine ⟨_, pss_one (ps_ret (pe_ix ix_seq (pv 1) (pe_kn T hr (Nat.le_add_left 1 k) (pa_cons (pv 0) (pa_cons (pe_callB call_len_seq (by rfl) ml PySem.boot_len (pa_cons (pv 1) pa_nil)) pa_nil))) (fun _ _ => rfl))), ?_⟩
    refine ⟨.ref l, rfl, .ref a, rfl, .ref l, rfl, l, xs, rfl, hl, a, _, c, rfl, pa, by omega, ?_, hc, fun d H' b p' d0 dm => ?_⟩
    · have : (xs.length : Int) ≤ 1000000 := by omega
      exact Int.lt_of_le_of_lt this (by decide)
    have lt : d.toNat < xs.length := by omega
    have ei : atI xs d = some xs[d.toNat] := by
      have := atI_nat (xs := xs) (j := d.toNat) (List.getElem?_eq_getElem lt)
      rwa [Int.toNat_of_nonneg d0] at this
    have fin := q xs[d.toNat] H' (List.getElem_mem lt) b p'
    rcases hl with h | h
    · exact .inl ⟨l, xs, d, _, rfl, rfl, b.seq ne h, ei, fin⟩
    · exact .inr (.inl ⟨l, xs, d, _, rfl, rfl, b.tup ne h, ei, fin⟩)

/-- none beyond its top -/
def Le (st tops : List Int) : Prop := ∀ (i : Nat) (x t : Int), st[i]? = some x → tops[i]? = some t → x ≤ t
theorem Le.snoc {st tops : List Int} {x t : Int} (h : Le st tops) (e : tops[st.length]? = some t) (l : x ≤ t) : Le (st ++ [x]) tops := fun i y u h1 h2 => by
  rcases Nat.lt_or_ge i st.length with q | q
  · rw [List.getElem?_append_left q] at h1
    exact h i y u h1 h2
  · rw [List.getElem?_append_right q] at h1
    have e0 : i - st.length = 0 := by
      rcases Nat.eq_zero_or_pos (i - st.length) with z | z
      · exact z
      · rw [List.getElem?_eq_none (by simp only [List.length_cons, List.length_nil]; omega)] at h1
        cases h1
    have ei : i = st.length := by omega
    subst ei
    rw [e0] at h1
    cases h1
    rw [e] at h2
    cases h2
    exact l
/-- a standing -/
def spStand (K : PySem.W.Frag) : Sp := fun vs H Q _ => ∃ (a t : Addr) (tops : List Int) (c : Nat), vs = [.ref a, .ref t] ∧ PotAt H a c ∧ SqT K H t (tops.map V.int) ∧ Pl tops ∧ tops.length ≤ 12 ∧ c < 900000 ∧
  ∀ H' p st, But a H H' → PotAt H' a (c + 12) → H p = none → H' p = some (.tup (st.map V.int)) → st.length = tops.length → Pl st → Le st tops → Q (.ref p) H'
theorem ok_stand {f fT : Addr} {fd fdT : FuncData} {k : Nat} (F : Fun K "_law_standing" "_law_standing" sStand f fd) (T : Kn P w K mg base 1 "_law_take" ["_law_pot_here", "_law_many"] spTake fT fdT) (mt : mg "tuple" = none) : FnOk P w K mg base CX0 (k + 2) f fd ["_law_pot_here", "_law_tops"] (spStand K) := by
  refine F.ok scStand (fun vs H Q E h => ?_) (fun cdv A outer s H vs Q E hr h => ?_)
  · obtain ⟨a, t, tops, c, rfl, _⟩ := h
    rfl
  · obtain ⟨a, t, tops, c, rfl, pa, ht, pl, l12, hc, q⟩ := h
    refine ⟨_, pss_one (ps_ret (pe_callTy call_tuple_of (by rfl) mt (by decide +kernel) (pa_cons
      (pe_lc (own := [("_law_top", 2)]) (g := gName 2) (tt := tYes) rfl scStand.nd (pi_tup (pv 1)) (blkOk_by (N := ["_law_pot_here", "_law_tops", "_law_top"]) (sc := defScope sStand) (by decide +kernel))
        (fun _ _ _ _ _ => pg_name (i := 2) scStand.nd rfl (.inl rfl) (hf := .inr rfl)) (fun _ _ _ _ _ => pts_nil)
        (fun _ _ _ _ _ => pe_kn T hr (Nat.le_add_left 1 k) (pa_cons (pv 0) (pa_cons (pe_op op_add (pv 2) pe_int) pa_nil)))) pa_nil))), ?_⟩
    refine ⟨.ref t, rfl, t, rfl, ⟨_, ht⟩, fun D nD => lc_it (walk_tup (xs := tops.map V.int)) (fun i H' => But a H H' ∧ PotAt H' a (c + i) ∧ ∃ st : List Int, H' D = some (.lst (st.map V.int)) ∧ st.length = i ∧ Pl st ∧ Le st tops)
      ⟨but_new (fun _ _ _ e => e) nD, pa.keep (same_new nD), [], upd_same, rfl, fun _ h => absurd h List.not_mem_nil, fun i x t h => by simp at h⟩ (fun i H' _ p => p.1.tupP pa ht) (fun i v H1 H2 hi p y => ?_) (fun H' p => ?_)⟩
    · obtain ⟨b, p1, st, eD, sl, sp, sle⟩ := p
      obtain ⟨rfl, gv⟩ := y
      obtain ⟨x, ex, rfl⟩ := mapGet gv
      have hx := pl x (List.mem_of_getElem? ex)
      have hi' : i < tops.length := by simpa using hi
      refine ⟨rfl, .ref a, rfl, .int x, rfl, x, 1, rfl, rfl, a, x + 1, c + i, rfl, p1, by omega, ?_, by omega, fun d H3 b3 p3 d0 dm => ?_⟩
      · have : x + 1 ≤ 10 ^ 30 := by omega
        exact Int.lt_of_le_of_lt this (by decide)
      have nDa : D ≠ a := pa.ne nD
      refine ⟨_, b3 _ _ nDa eD, ?_, but_new (b.trans b3) nD, ?_, st ++ [d], ?_, ?_, sp.snoc d0 (by omega), sle.snoc (by rw [sl]; exact ex) (by omega)⟩
      · rw [List.length_map]
        exact small1000 (by omega)
      · obtain ⟨u, v, r, e, z⟩ := p3
        exact ⟨u, v, r, (upd_ne nDa.symm).trans e, z⟩
      · rw [upd_same, List.map_append]
        rfl
      · rw [List.length_append, sl]
        rfl
    · obtain ⟨b, p1, st, eD, sl, sp, sle⟩ := p
      rw [List.length_map] at p1 sl
      refine ⟨D, _, rfl, .inl ⟨.inl (.inl eD), fun l nl => ?_⟩⟩
      have nla : l ≠ a := p1.ne nl
      have nlH : H l = none := b.free nla nl
      refine q _ l st (but_new b nlH) (((p1.mono (by omega)).keep (same_new nl))) nlH upd_same sl sp sle
end

section
variable {P : Program} {w : World} {K : PySem.W.Frag} {mg : Str → Option Value} {base : Heap}

theorem pot_upd {H : Hp} {a p : Addr} {c : Nat} {o : HO} (h : PotAt H a c) (n : p ≠ a) : PotAt (upd H p o) a c := by
  obtain ⟨x, y, z, e, r⟩ := h
  exact ⟨x, y, z, (upd_ne n.symm).trans e, r⟩
theorem e15 : (10 : Int) ^ (15 : Int).toNat = 1000000000000000 := by decide
theorem e30 : (10 : Int) ^ (30 : Int).toNat = 10 ^ 30 := by decide

end

abbrev sWide : Stmt := topS 59
theorem scWide : FnScope ["_law_pot_here", "_law_found", "_law_thing", "_law_great"] ["_law_pot_here"] (defScope sWide) := ⟨rfl, rfl, rfl, by decide +kernel, rfl, by decide +kernel, by decide +kernel⟩
section
variable {P : Program} {w : World} {K : PySem.W.Frag} {mg : Str → Option Value} {base : Heap}
def spWide (K : PySem.W.Frag) : Sp := fun vs H Q _ => ∃ (a : Addr) (c : Nat), vs = [.ref a] ∧ PotAt H a c ∧ c < 900000 ∧
  ∀ H' p tops, But a H H' → PotAt H' a (c + 60) → H p = none → H' p = some (.tup (tops.map V.int)) → 2 ≤ tops.length → tops.length ≤ 12 → Pl tops → Q (.ref p) H'
theorem ok_wide {f fT fO : Addr} {fd fdT fdO : FuncData} {k : Nat} (F : Fun K "_law_wide_tops" "_law_wide_tops" sWide f fd) (T : Kn P w K mg base 1 "_law_take" ["_law_pot_here", "_law_many"] spTake fT fdT)
    (O : Kn P w K mg base 2 "_law_of" ["_law_pot_here", "_law_some"] (spOf K) fO fdO) (mr : mg "range" = none) (mt : mg "tuple" = none) : FnOk P w K mg base CX0 (k + 3) f fd ["_law_pot_here"] (spWide K) := by
  refine F.ok scWide (fun vs H Q E h => ?_) (fun cdv A outer s H vs Q E hr h => ?_)
  · obtain ⟨a, c, rfl, _⟩ := h
    rfl
  · obtain ⟨a, c, rfl, pa, hc, q⟩ := h
    refine ⟨_, pss_cons (ps_set (i := 1) scWide.nd rfl (.inl rfl) (pe_lst pa_nil))
      (pss_cons (ps_for PassesOwn.never rfl (pi_range1 (by rfl) mr (pa_cons (pe_op op_add pe_int (pe_kn T hr (by omega) (pa_cons (pv 0) (pa_cons pe_int pa_nil)))) pa_nil)) (pg_name (i := 2) scWide.nd rfl (.inl rfl))
        (pss_cons (ps_set (i := 3) scWide.nd rfl (.inl rfl) (pe_op op_add (pe_op op_mul (pe_kn T hr (by omega) (pa_cons (pv 0) (pa_cons (pe_op op_pow pe_int pe_int) pa_nil))) (pe_op op_pow pe_int pe_int)) (pe_kn T hr (by omega) (pa_cons (pv 0) (pa_cons (pe_op op_pow pe_int pe_int) pa_nil)))))
        (pss_one (ps_expr (pe_bm PySem.F.plainAttrs_list PySem.F.slot_list_append PySem.F.type_list_append mt_append (pv 1) (pa_cons (pe_kn O hr (by omega) (pa_cons (pv 0) (pa_cons (pe_lst (pa_cons pe_int (pa_cons pe_int (pa_cons pe_int (pa_cons pe_int (pa_cons (pv 3) (pa_cons (pe_op op_sub (pe_op op_pow pe_int pe_int) pe_int) pa_nil))))))) pa_nil))) pa_nil))))))
      (pss_one (ps_ret (pe_callTy call_tuple_of (by rfl) mt (by decide +kernel) (pa_cons (pv 1) pa_nil))))), ?_⟩
    refine ⟨Nat.zero_le _, fun l nl => ?_⟩
    have nla : l ≠ a := pa.ne nl
    refine ⟨.ref a, rfl, a, 11, c, rfl, pot_upd pa nla, by decide, by decide, by omega, fun d H1 b1 p1 d0 d1 => ?_⟩
    have el1 : H1 l = some (.lst []) := b1 _ _ nla upd_same
    have bl1 : But a H H1 := fun b o ne e => b1 _ _ ne (by rw [upd_ne (ne_of_none e nl)]; exact e)
    refine ⟨2, d, rfl, rfl, 2 + d, rfl, by omega, by omega, for_it walk_range (fun i σ H' => (∃ u v, σ = [some (.ref a), some (.ref l), u, v]) ∧ But a H H' ∧ PotAt H' a (c + 1 + 3 * i) ∧ ∃ ts : List Int, H' l = some (.lst (ts.map V.int)) ∧ ts.length = i ∧ Pl ts)
      ⟨⟨none, none, rfl⟩, bl1, p1, [], el1, rfl, fun _ h => absurd h List.not_mem_nil⟩ (fun _ _ _ _ _ => trivial) (fun i v σ H2 H3 hi p y => ?_) (fun σ H2 p => ?_)⟩
    · obtain ⟨⟨u, v', rfl⟩, b2, p2, ts, el2, tl, tp⟩ := p
      obtain ⟨rfl, rfl⟩ := y
      have hi' : i < 12 := by omega
      refine ⟨.ref a, rfl, 10, 15, rfl, rfl, ⟨by decide, by decide, by decide⟩, a, _, c + 1 + 3 * i, rfl, p2, by rw [e15]; decide, by rw [e15]; decide, by omega, fun g1 H4 b4 p4 g0 gm => ?_⟩
      rw [e15] at gm
      refine ⟨10, 15, rfl, rfl, ⟨by decide, by decide, by decide⟩, g1, _, rfl, rfl, .inr (by rw [e15]; exact ⟨by decide, by decide⟩), .ref a, rfl, 10, 15, rfl, rfl, ⟨by decide, by decide, by decide⟩, a, _, c + 1 + 3 * i + 1, rfl, p4, by rw [e15]; decide, by rw [e15]; decide, by omega, fun g2 H5 b5 p5 h0 hm => ?_⟩
      rw [e15] at hm
      refine ⟨_, g2, rfl, rfl, ?_⟩
      have el5 : H5 l = some (.lst (ts.map V.int)) := b5 _ _ nla (b4 _ _ nla el2)
      refine ⟨.ref l, rfl, .inl ⟨rfl, _, .inl (.inl el5)⟩, .ref a, rfl, _, rfl, 10, 30, rfl, rfl, ⟨by decide, by decide, by decide⟩, _, 1, rfl, rfl, (show 6 ≤ sizeLine by decide), fun m nm => ?_⟩
      have nma : m ≠ a := p5.ne nm
      have nml : l ≠ m := ne_of_none el5 nm
      refine ⟨a, m, _, c + 1 + 3 * i + 1 + 1, rfl, pot_upd p5 nma, nma, .inl (.inl (.inl upd_same)), (show 1 ≤ 6 by decide), (show 6 ≤ 1000000 by decide), by omega, fun x H6 hx b6 p6 => ?_⟩
      have hx' : ∃ t : Int, x = .int t ∧ 0 ≤ t ∧ t < 10 ^ 30 := by
        simp only [List.mem_cons, List.not_mem_nil, or_false] at hx
        rcases hx with e | e | e | e | e | e
        · exact ⟨_, e, by decide, by decide⟩
        · exact ⟨_, e, by decide, by decide⟩
        · exact ⟨_, e, by decide, by decide⟩
        · exact ⟨_, e, by decide, by decide⟩
        · refine ⟨_, e, ?_, ?_⟩ <;> rw [e15] <;> omega
        · refine ⟨_, e, ?_, ?_⟩ <;> rw [e30] <;> decide
      obtain ⟨t, rfl, t0, t1⟩ := hx'
      have el6 : H6 l = some (.lst (ts.map V.int)) := b6 _ _ nla ((upd_ne nml).trans el5)
      refine ⟨l, _, _, rfl, rfl, el6, by rw [List.length_map]; exact small1000 (by omega), ⟨_, _, rfl⟩, ?_, ?_, ts ++ [t], ?_, ?_, tp.snoc t0 t1⟩
      · have nmH : H5 m = none := nm
        have b26 : But a H3 H6 := fun b o ne e => b6 _ _ ne (by
          have e5 := b5 _ _ ne (b4 _ _ ne e)
          rw [upd_ne (ne_of_none e5 nm)]
          exact e5)
        exact but_new (b2.trans b26) nl
      · exact pot_upd (p6.mono (by omega)) nla
      · rw [upd_same, List.map_append]
        rfl
      · rw [List.length_append, tl]
        rfl
    · obtain ⟨⟨u, v', rfl⟩, b2, p2, ts, el2, tl, tp⟩ := p
      refine ⟨.ref l, rfl, l, _, rfl, .inl ⟨.inl (.inl el2), fun m nm => ?_⟩⟩
      have nma : m ≠ a := p2.ne nm
      have nmH : H m = none := b2.free nma nm
      exact q _ m ts (but_new b2 nmH) (pot_upd (p2.mono (by omega)) nma) nmH upd_same (by omega) (by omega) tp
end

end K70

set_option Elab.async false
set_option linter.all false
set_option maxRecDepth 100000
namespace K70
open PySem PySem.Spec PyProof.Rows L2 NB

/-! ### what stands though lists change -/
/-- all but lists stands -/
def Keep (H H' : Hp) : Prop := ∀ b o, (∀ xs, o ≠ .lst xs) → H b = some o → H' b = some o
theorem Keep.refl (H : Hp) : Keep H H := fun _ _ _ e => e
theorem Keep.trans {H H1 H2 : Hp} (a : Keep H H1) (b : Keep H1 H2) : Keep H H2 := fun c o n e => b c o n (a c o n e)
theorem Keep.same {H H' : Hp} (h : Same H H') : Keep H H' := fun b o _ e => h b o e
theorem Keep.but {a : Addr} {H H' : Hp} {c : Nat} (h : But a H H') (p : PotAt H a c) : Keep H H' := fun b o n e => by
  obtain ⟨x, y, z, ea, _⟩ := p
  exact h b o (fun q => n _ (by rw [q, ea] at e; exact (Option.some.inj e).symm)) e
theorem Keep.upd {H : Hp} {l : Addr} {o : HO} {xs : List V} (e : H l = some (.lst xs)) : Keep H (upd H l o) := fun b x n q => by
  rw [upd_ne (fun z => n xs (by rw [z, e] at q; exact (Option.some.inj q).symm))]
  exact q
theorem Keep.tup {H H' : Hp} {p : Addr} {xs : List V} (k : Keep H H') (e : H p = some (.tup xs)) : H' p = some (.tup xs) := k _ _ (fun _ q => by cases q) e
theorem Keep.sq {K : PySem.W.Frag} {H H' : Hp} {p : Addr} {xs : List V} (k : Keep H H') (e : SqT K H p xs) : SqT K H' p xs := by
  rcases e with (q | ⟨o, q⟩) | q
  · exact .inl (.inl (k _ _ (fun _ q => by cases q) q))
  · exact .inl (.inr ⟨o, k _ _ (fun _ q => by cases q) q⟩)
  · exact .inr q

/-! ### sides, rules, plans as data and as objects -/
abbrev Sd := Nat × Bool × Int
abbrev Rl := Sd × Sd
def word (b : Bool) : Str := if b then "from" else "to"
def SideAt (H : Hp) (p : Addr) (s : Sd) : Prop := H p = some (.tup [.int s.1, .str (word s.2.1), .int s.2.2])
def RuleAt (H : Hp) (r : Addr) (q : Rl) : Prop := ∃ p1 p2, H r = some (.tup [.ref p1, .ref p2]) ∧ SideAt H p1 q.1 ∧ SideAt H p2 q.2
def RulesAt (H : Hp) (R : Addr) (rs : List Rl) : Prop := ∃ as : List Addr, H R = some (.tup (as.map V.ref)) ∧ as.length = rs.length ∧ ∀ (i : Nat) (r : Addr) (q : Rl), as[i]? = some r → rs[i]? = some q → RuleAt H r q
def PlanAt (C : Addr) (H : Hp) (x : Addr) (tops : List Int) (rs : List Rl) : Prop := ∃ dx t R, H x = some (.ins C dx [("tops", .ref t), ("rules", .ref R)]) ∧ H t = some (.tup (tops.map V.int)) ∧ RulesAt H R rs
theorem SideAt.keep {H H' : Hp} {p : Addr} {s : Sd} (h : SideAt H p s) (k : Keep H H') : SideAt H' p s := k.tup h
theorem RuleAt.keep {H H' : Hp} {p : Addr} {q : Rl} (h : RuleAt H p q) (k : Keep H H') : RuleAt H' p q := by
  obtain ⟨p1, p2, e, h1, h2⟩ := h
  exact ⟨p1, p2, k.tup e, h1.keep k, h2.keep k⟩
theorem RulesAt.keep {H H' : Hp} {R : Addr} {rs : List Rl} (h : RulesAt H R rs) (k : Keep H H') : RulesAt H' R rs := by
  obtain ⟨as, e, l, a⟩ := h
  exact ⟨as, k.tup e, l, fun i r q h1 h2 => (a i r q h1 h2).keep k⟩
theorem PlanAt.keep {C : Addr} {H H' : Hp} {x : Addr} {tops : List Int} {rs : List Rl} (h : PlanAt C H x tops rs) (k : Keep H H') : PlanAt C H' x tops rs := by
  obtain ⟨dx, t, R, e, et, er⟩ := h
  exact ⟨dx, t, R, k _ _ (fun _ q => by cases q) e, k.tup et, er.keep k⟩
/-- a side of the plan -/
def SideOk (tops : List Int) (s : Sd) : Prop := ∃ t, tops[s.1]? = some t ∧ 0 ≤ s.2.2 ∧ s.2.2 ≤ t
def RuleOk (tops : List Int) (q : Rl) : Prop := SideOk tops q.1 ∧ SideOk tops q.2
theorem word_in (b : Bool) : inV (.str (word b)) [.str "from", .str "to"] = true := by cases b <;> decide +kernel
theorem word_from : word true = "from" := rfl

abbrev kWhole : Stmt := topS 19
abbrev kPlace : Stmt := topS 20
abbrev kTops : Stmt := topS 21
abbrev kSide : Stmt := topS 22
abbrev kSides : Stmt := topS 23
abbrev kRule : Stmt := topS 24
abbrev kRules : Stmt := topS 25
abbrev kInit : Stmt := inClass (topS 27) 0
theorem scWhole : FnScope ["thing"] ["thing"] (defScope kWhole) := ⟨rfl, rfl, rfl, by decide +kernel, rfl, by decide +kernel, by decide +kernel⟩
theorem scPlace : FnScope ["top", "thing"] ["top", "thing"] (defScope kPlace) := ⟨rfl, rfl, rfl, by decide +kernel, rfl, by decide +kernel, by decide +kernel⟩
theorem scTops : FnScope ["thing", "top"] ["thing"] (defScope kTops) := ⟨rfl, rfl, rfl, by decide +kernel, rfl, by decide +kernel, by decide +kernel⟩
theorem scSide : FnScope ["tops", "thing", "number", "word", "place"] ["tops", "thing"] (defScope kSide) := ⟨rfl, rfl, rfl, by decide +kernel, rfl, by decide +kernel, by decide +kernel⟩
theorem scSides : FnScope ["tops", "thing", "side"] ["tops", "thing"] (defScope kSides) := ⟨rfl, rfl, rfl, by decide +kernel, rfl, by decide +kernel, by decide +kernel⟩
theorem scRule : FnScope ["tops", "thing"] ["tops", "thing"] (defScope kRule) := ⟨rfl, rfl, rfl, by decide +kernel, rfl, by decide +kernel, by decide +kernel⟩
theorem scRules : FnScope ["tops", "thing", "rule"] ["tops", "thing"] (defScope kRules) := ⟨rfl, rfl, rfl, by decide +kernel, rfl, by decide +kernel, by decide +kernel⟩
theorem scInit : FnScope ["self", "tops", "rules"] ["self", "tops", "rules"] (defScope kInit) := ⟨rfl, rfl, rfl, by decide +kernel, rfl, by decide +kernel, by decide +kernel⟩

section
variable {P : Program} {w : World} {K : PySem.W.Frag} {mg : Str → Option Value} {base : Heap}

def spWhole : Sp := fun vs H Q _ => ∃ i : Int, vs = [.int i] ∧ Q (.bl true) H
theorem ok_whole {f : Addr} {fd : FuncData} {k : Nat} (F : Fun K "is_whole" "is_whole" kWhole f fd) (ms : mg "isinstance" = none) (mi : mg "int" = none) (mb : mg "bool" = none) : FnOk P w K mg base CX0 (k + 1) f fd ["thing"] spWhole := by
  refine F.ok scWhole (fun vs H Q E h => ?_) (fun cdv A outer s H vs Q E hr h => ?_)
  · obtain ⟨i, rfl, _⟩ := h
    rfl
  · obtain ⟨i, rfl, q⟩ := h
    refine ⟨_, pss_one (ps_ret (pe_and (pe_callB call_isi (by rfl) ms (by decide +kernel) (pa_cons (pv 0) (pa_cons (pe_bltn (v := .ty "int") (u := .type "int") (by rfl) mi (by decide +kernel) rfl) pa_nil)))
      (pe_one (pe_not (pe_callB call_isi (by rfl) ms (by decide +kernel) (pa_cons (pv 0) (pa_cons (pe_bltn (v := .ty "bool") (u := .type "bool") (by rfl) mb (by decide +kernel) rfl) pa_nil))))))), ?_⟩
    refine ⟨.int i, rfl, _, _, _, _, true, rfl, .ty "int", .base (.int i), kit_ty (by decide +kernel), true, rfl, iteT ?_⟩
    exact ⟨.int i, rfl, _, _, _, _, false, rfl, .ty "bool", .base (.int i), kit_ty (by decide +kernel), false, rfl, q⟩

def spPlace : Sp := fun vs H Q _ => ∃ t i : Int, vs = [.int t, .int i] ∧ Q (.bl (decide (0 ≤ i) && decide (i ≤ t))) H
theorem ok_place {f fW : Addr} {fd fdW : FuncData} {k : Nat} (F : Fun K "is_place" "is_place" kPlace f fd) (W : Kn P w K mg base 1 "is_whole" ["thing"] spWhole fW fdW) : FnOk P w K mg base CX0 (k + 2) f fd ["top", "thing"] spPlace := by
  refine F.ok scPlace (fun vs H Q E h => ?_) (fun cdv A outer s H vs Q E hr h => ?_)
  · obtain ⟨t, i, rfl, _⟩ := h
    rfl
  · obtain ⟨t, i, rfl, q⟩ := h
    refine ⟨_, pss_one (ps_ret (pe_and (pe_kn W hr (by omega) (pa_cons (pv 1) pa_nil)) (pe_one (pe_chain op_le op_le pe_int (pv 1) (pv 0))))), ?_⟩
    refine ⟨.int i, rfl, i, rfl, true, rfl, iteT ?_⟩
    refine ⟨.int i, rfl, 0, i, rfl, rfl, _, rfl, ite2 (fun c => ?_) (fun c => ?_)⟩
    · rw [show decide (0 ≤ i) = true from c, Bool.true_and] at q
      exact ⟨.int t, rfl, i, t, rfl, rfl, q⟩
    · rw [Bool.eq_false_iff.mpr c, Bool.false_and] at q
      exact q

def spTops (K : PySem.W.Frag) : Sp := fun vs H Q _ => ∃ (a : Addr) (tops : List Int), vs = [.ref a] ∧ H a = some (.tup (tops.map V.int)) ∧ 1 ≤ tops.length ∧ tops.length ≤ 12 ∧ Pl tops ∧ ∀ H', Same H H' → Q (.bl true) H'
theorem ok_tops {f fP : Addr} {fd fdP : FuncData} {k : Nat} {t1 t2 : Tok} (F : Fun K "are_tops" "are_tops" kTops f fd) (Pc : Kn P w K mg base 2 "is_place" ["top", "thing"] spPlace fP fdP) (ms : mg "isinstance" = none) (mt : mg "tuple" = none) (ml : mg "len" = none) (ma : mg "all" = none)
    (g1 : mg "MOST_THINGS" = some (.int 12 t1)) (g2 : mg "BEYOND_THIRTY_FIGURES" = some (.int 1000000000000000000000000000000 t2)) : FnOk P w K mg base CX0 (k + 3) f fd ["thing"] (spTops K) := by
  refine F.ok scTops (fun vs H Q E h => ?_) (fun cdv A outer s H vs Q E hr h => ?_)
  · obtain ⟨a, tops, rfl, _⟩ := h
    rfl
  · obtain ⟨a, tops, rfl, ea, l1, l12, pl, q⟩ := h
    refine ⟨_, pss_cons (ps_if (PW.pt (pw_or (pt_not (pt_val (pe_callB call_isi (by rfl) ms (by decide +kernel) (pa_cons (pv 0) (pa_cons (pe_bltn (v := .ty "tuple") (u := .type "tuple") (by rfl) mt (by decide +kernel) rfl) pa_nil)))))
        (pw_or1 (pt_not (pt_chain op_le op_le pe_int (pe_callB call_len_seq (by rfl) ml PySem.boot_len (pa_cons (pv 0) pa_nil)) (pe_glob (v := .int 12) rfl g1 ⟨_, rfl⟩)))))) (pss_one (ps_ret pe_bl)) pss_nil)
      (pss_one (ps_ret (pe_callB (cr_all rfl) (by rfl) ma (by decide +kernel) (pa_cons
        (pe_lc (own := [("top", 1)]) (g := gName 1) (tt := tYes) (te := tCall spPlace [] E0 (tCons (tOp (rI0 fun i j => .int (i - j)) (tC (.int 1000000000000000000000000000000)) (tC (.int 1))) (tCons (tVar 1) tNil))) rfl scTops.nd (pi_tup (pv 0)) (blkOk_by (N := ["thing", "top"]) (sc := defScope kTops) (by decide +kernel))
          (fun _ _ _ _ _ => pg_name (i := 1) scTops.nd rfl (.inl rfl) (hf := .inr rfl)) (fun _ _ _ _ _ => pts_nil)
          (fun _ _ _ _ _ => pe_kn Pc hr (by omega) (pa_cons (pe_op op_sub (pe_glob (v := .int 1000000000000000000000000000000) rfl g2 ⟨_, rfl⟩) pe_int) (pa_cons (pv 1) pa_nil)))) pa_nil)))), ?_⟩
    refine ⟨.ref a, rfl, _, _, _, _, true, rfl, .ty "tuple", .base (.tup ea), kit_ty (by decide +kernel), true, rfl, iteF ?_⟩
    refine ⟨.ref a, rfl, a, _, rfl, .inr (.inl (.inl ea)), 1, _, rfl, rfl, true, ?_, iteT ⟨_, 12, rfl, rfl, true, ?_, iteF ?_⟩⟩
    · rw [List.length_map]
      exact congrArg V.bl (decide_eq_true (by omega))
    · rw [List.length_map]
      exact congrArg V.bl (decide_eq_true (by omega))
    refine ⟨.ref a, rfl, a, rfl, ⟨_, .inl (.inl ea)⟩, fun D nD => lc_it (walk_tup (xs := tops.map V.int)) (fun i H' => Same H H' ∧ H' D = some (.lst ((List.replicate i true).map V.bl))) ⟨same_new nD, upd_same⟩ (fun i H' _ p => .inl (.inl (p.1 _ _ ea))) (fun i v H1 H2 hi p y => ?_) (fun H' p => ?_)⟩
    · obtain ⟨sm, eD⟩ := p
      obtain ⟨rfl, gv⟩ := y
      obtain ⟨x, ex, rfl⟩ := mapGet gv
      have hx := pl x (List.mem_of_getElem? ex)
      have hi' : i < tops.length := by simpa using hi
      refine ⟨rfl, _, _, rfl, rfl, .int x, rfl, _, x, rfl, _, eD, by rw [List.length_map, List.length_replicate]; exact small1000 (by omega), same_over sm nD, ?_⟩
      rw [upd_same, decide_eq_true hx.1, decide_eq_true (show x ≤ 1000000000000000000000000000000 - 1 by have := hx.2; omega), List.replicate_succ', List.map_append]
      rfl
    · obtain ⟨sm, eD⟩ := p
      refine ⟨D, _, rfl, .inl (.inl eD), ?_⟩
      rw [show (List.replicate (tops.map V.int).length true).all id = true by simp]
      exact q H' sm

def spSide (K : PySem.W.Frag) : Sp := fun vs H Q _ => ∃ (t p : Addr) (tops : List Int) (sd : Sd), vs = [.ref t, .ref p] ∧ H t = some (.tup (tops.map V.int)) ∧ SideAt H p sd ∧ SideOk tops sd ∧ Q (.bl true) H
theorem ok_side {f fP wa : Addr} {fd fdP : FuncData} {k : Nat} (F : Fun K "is_side_of" "is_side_of" kSide f fd) (Pc : Kn P w K mg base 2 "is_place" ["top", "thing"] spPlace fP fdP) (ms : mg "isinstance" = none) (mt : mg "tuple" = none) (ml : mg "len" = none) (mr : mg "str" = none)
    (g1 : mg "WORDS" = some (.ref wa)) (hW : ∀ H, SqT K H wa [.str "from", .str "to"]) : FnOk P w K mg base CX0 (k + 3) f fd ["tops", "thing"] (spSide K) := by
  refine F.ok scSide (fun vs H Q E h => ?_) (fun cdv A outer s H vs Q E hr h => ?_)
  · obtain ⟨t, p, tops, sd, rfl, _⟩ := h
    rfl
  · obtain ⟨t, p, tops, ⟨n, b, pl⟩, rfl, et, ep, ⟨tp, eg, p0, p1⟩, q⟩ := h
    have ep' : H p = some (.tup [.int (n : Int), .str (word b), .int pl]) := ep
    have hn : n < tops.length := (List.getElem?_eq_some_iff.mp eg).1
    refine ⟨_, pss_cons (ps_if (PW.pt (pw_or (pt_not (pt_val (pe_callB call_isi (by rfl) ms (by decide +kernel) (pa_cons (pv 1) (pa_cons (pe_bltn (v := .ty "tuple") (u := .type "tuple") (by rfl) mt (by decide +kernel) rfl) pa_nil)))))
        (pw_or1 (pt_cmpR op_ne (pe_callB call_len_seq (by rfl) ml PySem.boot_len (pa_cons (pv 1) pa_nil)) pe_int (nomark _))))) (pss_one (ps_ret pe_bl)) pss_nil)
      (pss_cons (ps_asg (pv 1) (pg_tup (by rfl) (pgs_cons (pg_name (i := 2) scSide.nd rfl (.inl rfl)) (pgs_cons (pg_name (i := 3) scSide.nd rfl (.inl rfl)) (pgs_cons (pg_name (i := 4) scSide.nd rfl (.inl rfl)) pgs_nil)))))
      (pss_cons (ps_if (pt_not (pt_val (pe_kn Pc hr (by omega) (pa_cons (pe_op op_sub (pe_callB call_len_seq (by rfl) ml PySem.boot_len (pa_cons (pv 0) pa_nil)) pe_int) (pa_cons (pv 2) pa_nil))))) (pss_one (ps_ret pe_bl)) pss_nil)
      (pss_one (ps_ret (pe_and (pe_callB call_isi (by rfl) ms (by decide +kernel) (pa_cons (pv 3) (pa_cons (pe_bltn (v := .ty "str") (u := .type "str") (by rfl) mr (by decide +kernel) rfl) pa_nil)))
        (pe_and (pe_cmpR op_in_seq (pv 3) (pe_glob (v := .ref wa) rfl g1 rfl) (by rfl)) (pe_one (pe_kn Pc hr (by omega) (pa_cons (pe_ix ix_tup (pv 0) (pv 2) (fun _ _ => rfl)) (pa_cons (pv 4) pa_nil)))))))))), ?_⟩
    refine ⟨.ref p, rfl, _, _, _, _, true, rfl, .ty "tuple", .base (.tup ep'), kit_ty (by decide +kernel), true, rfl, iteF ?_⟩
    refine ⟨.ref p, rfl, p, _, rfl, .inr (.inl (.inl ep')), rfl, _, rfl, iteNS rfl ?_⟩
    refine ⟨.ref p, rfl, p, _, rfl, .inl (.inl ep'), rfl, _, _, rfl, _, _, rfl, _, _, rfl, rfl, ?_⟩
    refine ⟨.ref t, rfl, t, _, rfl, .inr (.inl (.inl et)), _, 1, rfl, rfl, .int n, rfl, _, n, rfl, true, ?_, iteF ?_⟩
    · rw [List.length_map, decide_eq_true (show (0 : Int) ≤ n by omega), decide_eq_true (show (n : Int) ≤ tops.length - 1 by omega)]
      rfl
    refine ⟨_, rfl, _, _, _, _, true, rfl, .ty "str", .base (.str _), kit_ty (by decide +kernel), true, rfl, iteT ?_⟩
    refine ⟨_, rfl, wa, _, rfl, .inr (hW H), rfl, by decide +kernel, true, ?_, iteT ?_⟩
    · rw [word_in]
      rfl
    refine ⟨.ref t, rfl, .int n, rfl, t, _, n, .int tp, rfl, rfl, .inl (.inl et), atI_nat (by rw [List.getElem?_map, eg]; rfl), .int pl, rfl, tp, pl, rfl, ?_⟩
    rw [decide_eq_true p0, decide_eq_true p1]
    exact q

/-- a run of truths that a comprehension makes -/
theorem all_true (n : Nat) : (List.replicate n true).all id = true := by simp
theorem more_true (n : Nat) : (List.replicate (n + 1) true).map V.bl = (List.replicate n true).map V.bl ++ [V.bl true] := by
  rw [List.replicate_succ', List.map_append]
  rfl

def spSides (K : PySem.W.Frag) : Sp := fun vs H Q _ => ∃ (t r : Addr) (tops : List Int) (as : List Addr), vs = [.ref t, .ref r] ∧ H t = some (.tup (tops.map V.int)) ∧ H r = some (.tup (as.map V.ref)) ∧ as.length ≤ 100 ∧ (∀ p ∈ as, ∃ sd, SideAt H p sd ∧ SideOk tops sd) ∧ ∀ H', Same H H' → Q (.bl true) H'
theorem ok_sides {f fP : Addr} {fd fdP : FuncData} {k : Nat} (F : Fun K "are_sides_of" "are_sides_of" kSides f fd) (Si : Kn P w K mg base 3 "is_side_of" ["tops", "thing"] (spSide K) fP fdP) (ms : mg "isinstance" = none) (mt : mg "tuple" = none) (ma : mg "all" = none) : FnOk P w K mg base CX0 (k + 4) f fd ["tops", "thing"] (spSides K) := by
  refine F.ok scSides (fun vs H Q E h => ?_) (fun cdv A outer s H vs Q E hr h => ?_)
  · obtain ⟨t, r, tops, as, rfl, _⟩ := h
    rfl
  · obtain ⟨t, r, tops, as, rfl, et, er, l, ok, q⟩ := h
    refine ⟨_, pss_one (ps_ret (pe_and (pe_callB call_isi (by rfl) ms (by decide +kernel) (pa_cons (pv 1) (pa_cons (pe_bltn (v := .ty "tuple") (u := .type "tuple") (by rfl) mt (by decide +kernel) rfl) pa_nil)))
      (pe_one (pe_callB (cr_all rfl) (by rfl) ma (by decide +kernel) (pa_cons
        (pe_lc (own := [("side", 2)]) (g := gName 2) (tt := tYes) (te := tCall (spSide K) [] E0 (tCons (tVar 0) (tCons (tVar 2) tNil))) rfl scSides.nd (pi_tup (pv 1)) (blkOk_by (N := ["tops", "thing", "side"]) (sc := defScope kSides) (by decide +kernel))
          (fun _ _ _ _ _ => pg_name (i := 2) scSides.nd rfl (.inl rfl) (hf := .inr rfl)) (fun _ _ _ _ _ => pts_nil)
          (fun _ _ _ _ _ => pe_kn Si hr (by omega) (pa_cons (pv 0) (pa_cons (pv 2) pa_nil)))) pa_nil))))), ?_⟩
    refine ⟨.ref r, rfl, _, _, _, _, true, rfl, .ty "tuple", .base (.tup er), kit_ty (by decide +kernel), true, rfl, iteT ?_⟩
    refine ⟨.ref r, rfl, r, rfl, ⟨_, .inl (.inl er)⟩, fun D nD => lc_it (walk_tup (xs := as.map V.ref)) (fun i H' => Same H H' ∧ H' D = some (.lst ((List.replicate i true).map V.bl))) ⟨same_new nD, upd_same⟩ (fun i H' _ p => .inl (.inl (p.1 _ _ er))) (fun i v H1 H2 hi p y => ?_) (fun H' p => ?_)⟩
    · obtain ⟨sm, eD⟩ := p
      obtain ⟨rfl, gv⟩ := y
      obtain ⟨x, ex, rfl⟩ := mapGet gv
      have hi' : i < as.length := by simpa using hi
      obtain ⟨sd, a1, a2⟩ := ok x (List.mem_of_getElem? ex)
      refine ⟨rfl, .ref t, rfl, .ref x, rfl, t, x, tops, sd, rfl, sm _ _ et, a1.keep (.same sm), a2, _, eD, by rw [List.length_map, List.length_replicate]; exact small1000 (by omega), same_over sm nD, ?_⟩
      rw [upd_same, more_true]
    · obtain ⟨sm, eD⟩ := p
      refine ⟨D, _, rfl, .inl (.inl eD), ?_⟩
      rw [all_true]
      exact q H' sm

def spRule (K : PySem.W.Frag) : Sp := fun vs H Q _ => ∃ (t r : Addr) (tops : List Int) (rl : Rl), vs = [.ref t, .ref r] ∧ H t = some (.tup (tops.map V.int)) ∧ RuleAt H r rl ∧ RuleOk tops rl ∧ ∀ H', Same H H' → Q (.bl true) H'
theorem ok_rule {f fP : Addr} {fd fdP : FuncData} {k : Nat} (F : Fun K "is_rule_of" "is_rule_of" kRule f fd) (Ss : Kn P w K mg base 4 "are_sides_of" ["tops", "thing"] (spSides K) fP fdP) (ml : mg "len" = none) : FnOk P w K mg base CX0 (k + 5) f fd ["tops", "thing"] (spRule K) := by
  refine F.ok scRule (fun vs H Q E h => ?_) (fun cdv A outer s H vs Q E hr h => ?_)
  · obtain ⟨t, r, tops, rl, rfl, _⟩ := h
    rfl
  · obtain ⟨t, r, tops, rl, rfl, et, ⟨p1, p2, er, h1, h2⟩, ok, q⟩ := h
    refine ⟨_, pss_one (ps_ret (pe_and (pe_kn Ss hr (by omega) (pa_cons (pv 0) (pa_cons (pv 1) pa_nil))) (pe_one (pe_cmpR op_eq (pe_callB call_len_seq (by rfl) ml PySem.boot_len (pa_cons (pv 1) pa_nil)) pe_int (nomark _))))), ?_⟩
    refine ⟨.ref t, rfl, .ref r, rfl, t, r, tops, [p1, p2], rfl, et, er, (show 2 ≤ 100 by decide), fun p hp => ?_, fun H' sm => ⟨true, rfl, iteT ?_⟩⟩
    · simp only [List.mem_cons, List.not_mem_nil, or_false] at hp
      rcases hp with e | e <;> rw [e]
      · exact ⟨_, h1, ok.1⟩
      · exact ⟨_, h2, ok.2⟩
    · exact ⟨.ref r, rfl, r, _, rfl, .inr (.inl (.inl (sm _ _ er))), rfl, q H' sm⟩

def spRules (K : PySem.W.Frag) : Sp := fun vs H Q _ => ∃ (t R : Addr) (tops : List Int) (rs : List Rl), vs = [.ref t, .ref R] ∧ H t = some (.tup (tops.map V.int)) ∧ RulesAt H R rs ∧ rs.length ≤ 40 ∧ (∀ q ∈ rs, RuleOk tops q) ∧ ∀ H', Same H H' → Q (.bl true) H'
theorem ok_rules {f fP : Addr} {fd fdP : FuncData} {k : Nat} {t1 : Tok} (F : Fun K "are_rules_of" "are_rules_of" kRules f fd) (Ru : Kn P w K mg base 5 "is_rule_of" ["tops", "thing"] (spRule K) fP fdP) (ms : mg "isinstance" = none) (mt : mg "tuple" = none) (ml : mg "len" = none) (ma : mg "all" = none)
    (g1 : mg "MOST_RULES" = some (.int 40 t1)) : FnOk P w K mg base CX0 (k + 6) f fd ["tops", "thing"] (spRules K) := by
  refine F.ok scRules (fun vs H Q E h => ?_) (fun cdv A outer s H vs Q E hr h => ?_)
  · obtain ⟨t, R, tops, rs, rfl, _⟩ := h
    rfl
  · obtain ⟨t, R, tops, rs, rfl, et, ⟨as, eR, la, ha⟩, l40, ok, q⟩ := h
    refine ⟨_, pss_cons (ps_if (PW.pt (pw_or (pt_not (pt_val (pe_callB call_isi (by rfl) ms (by decide +kernel) (pa_cons (pv 1) (pa_cons (pe_bltn (v := .ty "tuple") (u := .type "tuple") (by rfl) mt (by decide +kernel) rfl) pa_nil)))))
        (pw_or1 (pt_cmpR op_gt (pe_callB call_len_seq (by rfl) ml PySem.boot_len (pa_cons (pv 1) pa_nil)) (pe_glob (v := .int 40) rfl g1 ⟨_, rfl⟩) (nomark _))))) (pss_one (ps_ret pe_bl)) pss_nil)
      (pss_one (ps_ret (pe_callB (cr_all rfl) (by rfl) ma (by decide +kernel) (pa_cons
        (pe_lc (own := [("rule", 2)]) (g := gName 2) (tt := tYes) (te := tCall (spRule K) [] E0 (tCons (tVar 0) (tCons (tVar 2) tNil))) rfl scRules.nd (pi_tup (pv 1)) (blkOk_by (N := ["tops", "thing", "rule"]) (sc := defScope kRules) (by decide +kernel))
          (fun _ _ _ _ _ => pg_name (i := 2) scRules.nd rfl (.inl rfl) (hf := .inr rfl)) (fun _ _ _ _ _ => pts_nil)
          (fun _ _ _ _ _ => pe_kn Ru hr (by omega) (pa_cons (pv 0) (pa_cons (pv 2) pa_nil)))) pa_nil)))), ?_⟩
    refine ⟨.ref R, rfl, _, _, _, _, true, rfl, .ty "tuple", .base (.tup eR), kit_ty (by decide +kernel), true, rfl, iteF ?_⟩
    refine ⟨.ref R, rfl, R, _, rfl, .inr (.inl (.inl eR)), _, 40, rfl, rfl, false, ?_, iteF ?_⟩
    · rw [List.length_map]
      exact congrArg V.bl (decide_eq_false (by omega))
    refine ⟨.ref R, rfl, R, rfl, ⟨_, .inl (.inl eR)⟩, fun D nD => lc_it (walk_tup (xs := as.map V.ref)) (fun i H' => Same H H' ∧ H' D = some (.lst ((List.replicate i true).map V.bl))) ⟨same_new nD, upd_same⟩ (fun i H' _ p => .inl (.inl (p.1 _ _ eR))) (fun i v H1 H2 hi p y => ?_) (fun H' p => ?_)⟩
    · obtain ⟨sm, eD⟩ := p
      obtain ⟨rfl, gv⟩ := y
      obtain ⟨x, ex, rfl⟩ := mapGet gv
      have hi' : i < as.length := by simpa using hi
      have hr' : i < rs.length := by omega
      have eq : rs[i]? = some rs[i] := List.getElem?_eq_getElem hr'
      refine ⟨rfl, .ref t, rfl, .ref x, rfl, t, x, tops, rs[i], rfl, sm _ _ et, (ha i x _ ex eq).keep (.same sm), ok _ (List.getElem_mem hr'), fun H3 s3 => ?_⟩
      have sm3 := sm.trans s3
      refine ⟨_, s3 _ _ eD, by rw [List.length_map, List.length_replicate]; exact small1000 (by omega), same_over sm3 nD, ?_⟩
      rw [upd_same, more_true]
    · obtain ⟨sm, eD⟩ := p
      refine ⟨D, _, rfl, .inl (.inl eD), ?_⟩
      rw [all_true]
      exact q H' sm

/-- what is asked of the class as the top has made it -/
structure PlanTxt (K : PySem.W.Frag) (mg : Str → Option Value) (C : Addr) : Prop where
  cl : Cls K C
  nT : NoAttr K C "tops"
  nR : NoAttr K C "rules"
  mgC : mg "Plan" = some (.ref C)
theorem put_two (t R : Addr) : putF "rules" (V.ref R) (putF "tops" (V.ref t) []) = ([("tops", V.ref t), ("rules", V.ref R)] : List (Str × V)) := by
  have n : ¬ (("tops" : Str) = "rules") := by decide +kernel
  show (if ("tops" : Str) = "rules" then [(("tops" : Str), V.ref R)] else (("tops" : Str), V.ref t) :: putF "rules" (V.ref R) []) = _
  rw [if_neg n]
  rfl
def spInit (C : Addr) : Sp := fun vs H Q _ => ∃ (x dx t R : Addr) (tops : List Int) (rs : List Rl), vs = [.ref x, .ref t, .ref R] ∧ H x = some (.ins C dx []) ∧ H t = some (.tup (tops.map V.int)) ∧ RulesAt H R rs ∧ 1 ≤ tops.length ∧ tops.length ≤ 12 ∧ Pl tops ∧ rs.length ≤ 40 ∧ (∀ q ∈ rs, RuleOk tops q) ∧
  ∀ H', (∀ b o, b ≠ x → H b = some o → H' b = some o) → H' x = some (.ins C dx [("tops", .ref t), ("rules", .ref R)]) → Q .non H'
theorem ok_init {f C fT fR : Addr} {fd fdT fdR : FuncData} {k : Nat} {dvs : List V} {kws : List (Str × V)} (F : FunD K "__init__" "Plan.__init__" (defArgs kInit) (defBody kInit) (defScope kInit) dvs kws f fd) (T : PlanTxt K mg C) (To : Kn P w K mg base 3 "are_tops" ["thing"] (spTops K) fT fdT) (Ru : Kn P w K mg base 6 "are_rules_of" ["tops", "thing"] (spRules K) fR fdR) :
    FnOk P w K mg base CX0 (k + 7) f fd ["self", "tops", "rules"] (spInit C) := by
  refine F.ok scInit (fun vs H Q E h => ?_) (fun cdv A outer s H vs Q E hr h => ?_)
  · obtain ⟨x, dx, t, R, tops, rs, rfl, _⟩ := h
    rfl
  · obtain ⟨x, dx, t, R, tops, rs, rfl, ex, et, eR, l1, l12, pl, l40, ok, q⟩ := h
    refine ⟨_, pss_cons (ps_if (pt_not (pt_val (pe_kn To hr (by omega) (pa_cons (pv 1) pa_nil)))) (pss_one ps_never) pss_nil)
      (pss_cons (ps_if (pt_not (pt_val (pe_kn Ru hr (by omega) (pa_cons (pv 1) (pa_cons (pv 2) pa_nil))))) (pss_one ps_never) pss_nil)
      (pss_cons (ps_fld (pv 0) (pv 1) rfl) (pss_one (ps_fld (pv 0) (pv 2) rfl)))), ?_⟩
    refine ⟨.ref t, rfl, t, tops, rfl, et, l1, l12, pl, fun H1 s1 => ⟨true, rfl, iteF ?_⟩⟩
    refine ⟨.ref t, rfl, .ref R, rfl, t, R, tops, rs, rfl, s1 _ _ et, eR.keep (.same s1), l40, ok, fun H2 s2 => ⟨true, rfl, iteF ?_⟩⟩
    have s02 := s1.trans s2
    refine ⟨.ref t, rfl, .ref x, rfl, x, C, dx, [], rfl, s02 _ _ ex, T.cl, T.nT, (show 0 < 1000 by decide), ?_⟩
    refine ⟨.ref R, rfl, .ref x, rfl, x, C, dx, _, rfl, upd_same, T.cl, T.nR, (show 1 < 1000 by decide), ?_⟩
    refine q _ (fun b o ne e => ?_) ?_
    · rw [upd_ne ne, upd_ne ne]
      exact s02 _ _ e
    · rw [upd_same]
      exact congrArg (fun z => some (HO.ins C dx z)) (put_two t R)
/-- Plan(tops, rules) -/
theorem plan_made {C x dx : Addr} {H : Hp} {t R : Addr} {tops : List Int} {rs : List Rl} {W : VK} {E : XK} (nx : H x = none) (ndx : H dx = none) (ne : dx ≠ x) (et : H t = some (.tup (tops.map V.int))) (eR : RulesAt H R rs) (l1 : 1 ≤ tops.length) (l12 : tops.length ≤ 12) (pl : Pl tops) (l40 : rs.length ≤ 40) (ok : ∀ q ∈ rs, RuleOk tops q)
    (q : ∀ H', Same H H' → PlanAt C H' x tops rs → W .non H') : spInit C [.ref x, .ref t, .ref R] (upd (upd H dx (.own x)) x (.ins C dx [])) W E := by
  have s1 : Same H (upd (upd H dx (.own x)) x (.ins C dx [])) := (same_new ndx).trans (same_new (by rw [upd_ne ne.symm]; exact nx))
  refine ⟨x, dx, t, R, tops, rs, rfl, upd_same, s1 _ _ et, eR.keep (.same s1), l1, l12, pl, l40, ok, fun H' k ex => ?_⟩
  have s2 : Same H H' := fun b o e => k b o (ne_of_none e nx) (s1 b o e)
  exact q H' s2 ⟨dx, t, R, ex, s2 _ _ et, eR.keep (.same s2)⟩
end
end K70

set_option Elab.async false
set_option linter.all false
set_option maxRecDepth 100000
namespace K70
open PySem PySem.Spec PyProof.Rows L2 NB

/-! ### plans without rules -/
section
variable {P : Program} {w : World} {K : PySem.W.Frag} {mg : Str → Option Value} {base : Heap}
def spRules0 (K : PySem.W.Frag) : Sp := fun vs H Q _ => ∃ (t R : Addr), vs = [.ref t, .ref R] ∧ SqT K H R [] ∧ TyX K H (.ref R) (.type "tuple") ∧ (∀ H', Same H H' → SqT K H' R []) ∧ ∀ H', Same H H' → Q (.bl true) H'
abbrev a_are_rules_of : Stmt := topS 25
abbrev n_are_rules_of : List Str := ["tops", "thing", "rule"]
theorem sc_are_rules_of : FnScope n_are_rules_of ["tops", "thing"] (defScope a_are_rules_of) := ⟨rfl, rfl, rfl, by decide +kernel, rfl, by decide +kernel, by decide +kernel⟩
set_option maxHeartbeats 8000000 in
theorem ok_are_rules_of {f fRu : Addr} {fd fdRu : FuncData} {k : Nat} {t2 : Tok} (F : Fun K "are_rules_of" "are_rules_of" a_are_rules_of f fd) (Ru : Kn P w K mg base 5 "is_rule_of" ["tops", "thing"] (spRule K) fRu fdRu) (gv2 : mg "MOST_RULES" = some (.int 40 t2)) (m_all : mg "all" = none) (m_isinstance : mg "isinstance" = none) (m_len : mg "len" = none) (m_tuple : mg "tuple" = none) : FnOk P w K mg base CX0 (k + 6) f fd ["tops", "thing"] (spRules0 K) := by
  refine F.ok sc_are_rules_of (fun vs H Q E h => ?_) (fun cdv A outer s H vs Q E hr h => ?_)
  · obtain ⟨t, R, rfl, _⟩ := h
    rfl
  · obtain ⟨t, R, rfl, hR, tR, hS, q⟩ := h
    refine ⟨_, (pss_cons (ps_if (PW.pt (pw_or (pt_not (pt_val (pe_callB call_isi (by rfl) m_isinstance (by decide +kernel) (pa_cons (pv 1) (pa_cons (pe_bltn (v := .ty "tuple") (u := .type "tuple") (by rfl) m_tuple (by decide +kernel) rfl) pa_nil))))) (pw_or1 (pt_cmpR op_gt (pe_callB call_len_seq (by rfl) m_len (by decide +kernel) (pa_cons (pv 1) pa_nil)) (pe_glob (v := .int 40) rfl gv2 ⟨_, rfl⟩) (nomark _))))) (pss_one (ps_ret pe_bl)) pss_nil)
      (pss_one (ps_ret (pe_callB (cr_all rfl) (by rfl) m_all (by decide +kernel) (pa_cons (
        pe_lc (own := [("rule", 2)]) (g := (gName 2)) (tt := tYes) (te := (tCall (spRule K) [] E0 (tCons (tVar 0) (tCons (tVar 2) tNil)))) rfl sc_are_rules_of.nd (pi_tup (pv 1)) (blkOk_by (N := n_are_rules_of) (sc := defScope a_are_rules_of) (by decide +kernel))
          (fun _ _ _ _ _ => (pg_name (i := 2) sc_are_rules_of.nd rfl (.inl rfl) (hf := .inr rfl))) (fun _ _ _ _ _ => pts_nil) (fun _ _ _ _ _ => (pe_kn Ru hr (by omega) (pa_cons (pv 0) (pa_cons (pv 2) pa_nil))))) pa_nil))))), ?_⟩
    refine ⟨_, rfl, _, _, _, _, true, rfl, .ty "tuple", tR, kit_ty (by decide +kernel), true, rfl, iteF ?_⟩
    refine ⟨_, rfl, R, _, rfl, .inr hR, _, 40, rfl, rfl, false, rfl, iteF ?_⟩
    refine ⟨_, rfl, R, rfl, ⟨_, hR⟩, fun D nD => lc_it (walk_tup (xs := [])) (fun i H' => Same H H' ∧ H' D = some (.lst (([] : List Bool).map V.bl))) ⟨same_new nD, upd_same⟩ (fun i H' _ p => hS H' p.1) (fun i v H1 H2 hi p y => absurd hi (Nat.not_lt_zero _)) (fun H' p => ?_)⟩
    exact ⟨D, _, rfl, .inl (.inl p.2), q H' p.1⟩
def spInit0 (K : PySem.W.Frag) (C : Addr) : Sp := fun vs H Q _ => ∃ (x dx t R : Addr) (tops : List Int), vs = [.ref x, .ref t, .ref R] ∧ H x = some (.ins C dx []) ∧ H t = some (.tup (tops.map V.int)) ∧ 1 ≤ tops.length ∧ tops.length ≤ 12 ∧ Pl tops ∧ (∀ H, SqT K H R []) ∧ (∀ H, TyX K H (.ref R) (.type "tuple")) ∧
  ∀ H', (∀ b o, b ≠ x → H b = some o → H' b = some o) → H' x = some (.ins C dx [("tops", .ref t), ("rules", .ref R)]) → Q .non H'
theorem ok_init0 {f C fT fR : Addr} {fd fdT fdR : FuncData} {k : Nat} {dvs : List V} {kws : List (Str × V)} (F : FunD K "__init__" "Plan.__init__" (defArgs kInit) (defBody kInit) (defScope kInit) dvs kws f fd) (T : PlanTxt K mg C) (To : Kn P w K mg base 3 "are_tops" ["thing"] (spTops K) fT fdT) (Ru : Kn P w K mg base 6 "are_rules_of" ["tops", "thing"] (spRules0 K) fR fdR) :
    FnOk P w K mg base CX0 (k + 7) f fd ["self", "tops", "rules"] (spInit0 K C) := by
  refine F.ok scInit (fun vs H Q E h => ?_) (fun cdv A outer s H vs Q E hr h => ?_)
  · obtain ⟨x, dx, t, R, tops, rfl, _⟩ := h
    rfl
  · obtain ⟨x, dx, t, R, tops, rfl, ex, et, l1, l12, pl, hS, hT, q⟩ := h
    refine ⟨_, pss_cons (ps_if (pt_not (pt_val (pe_kn To hr (by omega) (pa_cons (pv 1) pa_nil)))) (pss_one ps_never) pss_nil)
      (pss_cons (ps_if (pt_not (pt_val (pe_kn Ru hr (by omega) (pa_cons (pv 1) (pa_cons (pv 2) pa_nil))))) (pss_one ps_never) pss_nil)
      (pss_cons (ps_fld (pv 0) (pv 1) rfl) (pss_one (ps_fld (pv 0) (pv 2) rfl)))), ?_⟩
    refine ⟨.ref t, rfl, t, tops, rfl, et, l1, l12, pl, fun H1 s1 => ⟨true, rfl, iteF ?_⟩⟩
    refine ⟨.ref t, rfl, .ref R, rfl, t, R, rfl, hS _, hT _, fun H' _ => hS H', fun H2 s2 => ⟨true, rfl, iteF ?_⟩⟩
    have s02 := s1.trans s2
    refine ⟨.ref t, rfl, .ref x, rfl, x, C, dx, [], rfl, s02 _ _ ex, T.cl, T.nT, (show 0 < 1000 by decide), ?_⟩
    refine ⟨.ref R, rfl, .ref x, rfl, x, C, dx, _, rfl, upd_same, T.cl, T.nR, (show 1 < 1000 by decide), ?_⟩
    refine q _ (fun b o ne e => ?_) ?_
    · rw [upd_ne ne, upd_ne ne]
      exact s02 _ _ e
    · rw [upd_same]
      exact congrArg (fun z => some (HO.ins C dx z)) (put_two t R)
end
end K70

set_option Elab.async false
set_option linter.all false
set_option maxRecDepth 100000
namespace K70
open PySem PySem.Spec PyProof.Rows L2 NB

/-! ### plans whose rules may be the default ones -/
def RulesAtK (K : PySem.W.Frag) (H : Hp) (R : Addr) (rs : List Rl) : Prop := ∃ as : List Addr, SqT K H R (as.map V.ref) ∧ as.length = rs.length ∧ ∀ (i : Nat) (r : Addr) (q : Rl), as[i]? = some r → rs[i]? = some q → RuleAt H r q
def PlanAtK (K : PySem.W.Frag) (C : Addr) (H : Hp) (x : Addr) (tops : List Int) (rs : List Rl) : Prop := ∃ dx t R, H x = some (.ins C dx [("tops", .ref t), ("rules", .ref R)]) ∧ H t = some (.tup (tops.map V.int)) ∧ RulesAtK K H R rs
theorem RulesAtK.keep {K : PySem.W.Frag} {H H' : Hp} {R : Addr} {rs : List Rl} (h : RulesAtK K H R rs) (k : Keep H H') : RulesAtK K H' R rs := by
  obtain ⟨as, e, l, a⟩ := h
  exact ⟨as, k.sq e, l, fun i r q h1 h2 => (a i r q h1 h2).keep k⟩
theorem PlanAtK.keep {K : PySem.W.Frag} {C : Addr} {H H' : Hp} {x : Addr} {tops : List Int} {rs : List Rl} (h : PlanAtK K C H x tops rs) (k : Keep H H') : PlanAtK K C H' x tops rs := by
  obtain ⟨dx, t, R, e, et, er⟩ := h
  exact ⟨dx, t, R, k _ _ (fun _ q => by cases q) e, k.tup et, er.keep k⟩
theorem RulesAt.k {K : PySem.W.Frag} {H : Hp} {R : Addr} {rs : List Rl} (h : RulesAt H R rs) : RulesAtK K H R rs := by
  obtain ⟨as, e, l, a⟩ := h
  exact ⟨as, .inl (.inl e), l, a⟩
theorem PlanAt.k {K : PySem.W.Frag} {C : Addr} {H : Hp} {x : Addr} {tops : List Int} {rs : List Rl} (h : PlanAt C H x tops rs) : PlanAtK K C H x tops rs := by
  obtain ⟨dx, t, R, e, et, er⟩ := h
  exact ⟨dx, t, R, e, et, er.k⟩

theorem look_rules (t R : Addr) : ([("tops", V.ref t), ("rules", V.ref R)] : List (Str × V)).lookup ("rules" : Str) = some (V.ref R) := by
  have n : (("rules" : Str) == "tops") = false := by decide +kernel
  simp [List.lookup, n]
theorem look_tops (t R : Addr) : ([("tops", V.ref t), ("rules", V.ref R)] : List (Str × V)).lookup ("tops" : Str) = some (V.ref t) := by
  simp [List.lookup]


end K70

set_option Elab.async false
set_option linter.all false
set_option maxRecDepth 100000
namespace K70
open PySem PySem.Spec PyProof.Rows L2 NB

/-! ### texts: promises of the calls -/
def rTxAdd : R2 := fun x y H Q => ∃ i j, x = .str i ∧ y = .str j ∧ i.length + j.length ≤ sizeLine ∧ Q (.str (i ++ j)) H
def tJoined (ts : List TE) : TE := fun σ H Q => tJs ts Str.empty σ H fun out H1 => Q (.str out) H1
def tTxStr (t : TA) : TE := tCB (fun xs H Q => ∃ i, xs = [.int i] ∧ i.natAbs.log2 < 1920 ∧ Q (.str (Str.ofString (toString i))) H) t
def tTxInt (t : TA) : TE := tCB (fun xs H Q => ∃ a n, xs = [.str a] ∧ PySem.intText? a = some n ∧ a.length ≤ 640 ∧ Q (.int n) H) t
def tTxSpl (to te : TE) : TE := tM1 (fun x xs H Q => ∃ a b, x = .str a ∧ xs = [.str b] ∧ (b.length == 0) = false ∧ a.length + 2 ≤ sizeLine ∧ rNewStrs (Txt.split a b) H Q) to te
def tTxPar (to te : TE) : TE := tM1 (fun x xs H Q => ∃ a b, x = .str a ∧ xs = [.str b] ∧ (b.length == 0) = false ∧ a.length ≤ sizeLine ∧
      ∀ p, H p = none → Q (.ref p) (upd H p (.tup [.str (Txt.partition a b).1, .str (Txt.partition a b).2.1, .str (Txt.partition a b).2.2]))) to te
def tTxJo (K : PySem.W.Frag) (to te : TE) : TE := tM1 (fun x xs H Q => ∃ a p, ∃ ys : List Str, x = .str a ∧ xs = [.ref p] ∧ (SqL K H p (ys.map V.str) ∨ SqT K H p (ys.map V.str)) ∧
      (ys.map (·.length)).sum + ys.length * a.length ≤ 16777216 ∧ Q (.str (Txt.join a ys)) H) to te

/-! ### texts of a plan -/
abbrev toS (i : Int) : Str := Str.ofString (toString i)
def sideT (s : Sd) : Str := toS s.1 ++ " " ++ word s.2.1 ++ " " ++ toS s.2.2
def ruleT (q : Rl) : Str := sideT q.1 ++ " / " ++ sideT q.2
def rowT (q : Rl) : Str := "rule" ++ " " ++ ruleT q
def standT (xs : List Int) : Str := Txt.join " " (xs.map toS)
def topsT (xs : List Int) : Str := "things" ++ " " ++ standT xs
def rowsT (tops : List Int) (rs : List Rl) : List Str := topsT tops :: rs.map rowT
def planT (tops : List Int) (rs : List Rl) : Str := Txt.join "\n" (rowsT tops rs)

theorem em_app (x : Str) : Str.empty ++ x = x := TL.ext_tl (by rw [TL.tl_append]; rfl)
theorem app3 (x y z : Str) : x ++ y ++ z = x ++ (y ++ z) := TL.ext_tl (by simp [TL.tl_append, List.append_assoc])
theorem len_app (x y : Str) : (x ++ y).length = x.length + y.length := by rw [TL.len_tl, TL.len_tl x, TL.len_tl y, TL.tl_append, List.length_append]
theorem toS_nat (n : Nat) : TL.tl (toS (n : Int)) = TL.numL n := TL.tl_num n
theorem nat_of {i : Int} (h : 0 ≤ i) : ∃ n : Nat, i = n := ⟨i.toNat, (Int.toNat_of_nonneg h).symm⟩
theorem toS_len {i : Int} (h0 : 0 ≤ i) (h1 : i < 10 ^ 30) : (toS i).length ≤ 30 := by
  obtain ⟨n, rfl⟩ := nat_of h0
  rw [TL.len_tl, toS_nat]
  exact TL.numL_len (by decide) (by
    have : ((10 ^ 30 : Nat) : Int) = 10 ^ 30 := by norm_cast
    omega)
theorem toS_free {i : Int} (h0 : 0 ≤ i) {s : Nat} (h : s < 48 ∨ 57 < s) : s ∉ TL.tl (toS i) := by
  obtain ⟨n, rfl⟩ := nat_of h0
  rw [toS_nat]
  exact TL.numL_free h
theorem small_log {i : Int} (h0 : 0 ≤ i) (h1 : i < 10 ^ 30) : i.natAbs.log2 < 1920 := by
  by_cases hz : i.natAbs = 0
  · rw [hz]; decide
  · refine (Nat.log2_lt hz).mpr ?_
    have : (i.natAbs : Int) < 10 ^ 30 := by omega
    have h2 : i.natAbs < 10 ^ 30 := by
      have e : ((10 ^ 30 : Nat) : Int) = 10 ^ 30 := by norm_cast
      omega
    exact Nat.lt_trans h2 (by decide +kernel)
theorem int_toS {i : Int} (h0 : 0 ≤ i) (h1 : i < 10 ^ 30) : PySem.intText? (toS i) = some i := by
  have hl := toS_len h0 h1
  obtain ⟨n, rfl⟩ := nat_of h0
  rw [TL.len_tl, toS_nat] at hl
  exact TL.int_num (by omega)

/-! ### is a number -/
def isNumB (z : Str) : Bool := if !(Txt.isascii z) || (!(Txt.isdigit z) || decide (30 < z.length)) then false else (decide (z = "0") || !Txt.startswith z "0")
theorem numL_head (n : Nat) : 0 < n → ∃ c r, TL.numL n = c :: r ∧ c ≠ 48 := by
  induction n using Nat.strongRecOn with
  | _ n ih =>
    intro h
    by_cases h10 : n < 10
    · exact ⟨48 + n, [], TL.numL_lt h10, by omega⟩
    · obtain ⟨c, r, e, hc⟩ := ih (n / 10) (by omega) (by omega)
      exact ⟨c, r ++ [48 + n % 10], by rw [TL.numL_step (by omega), e]; rfl, hc⟩
theorem digs {n : Nat} : ∀ c ∈ TL.numL n, 48 ≤ c ∧ c ≤ 57 := fun c hc => by
  refine Classical.byContradiction fun hn => ?_
  exact TL.numL_free (n := n) (s := c) (by omega) hc
theorem num_ok {i : Int} (h0 : 0 ≤ i) (h1 : i < 10 ^ 30) : isNumB (toS i) = true := by
  have hl := toS_len h0 h1
  obtain ⟨n, rfl⟩ := nat_of h0
  have ht := toS_nat n
  have a1 : Txt.isascii (toS (n : Int)) = true := by
    unfold Txt.isascii
    rw [← Array.all_toList, show (toS (n : Int)).cps.toList = TL.numL n from ht, List.all_eq_true]
    intro c hc
    have := digs c hc
    exact decide_eq_true (by omega)
  have a2 : Txt.isdigit (toS (n : Int)) = true := by
    unfold Txt.isdigit
    have hne : 0 < (toS (n : Int)).length := by
      rw [TL.len_tl, ht]
      exact List.length_pos_iff.mpr (TL.numL_ne n)
    rw [decide_eq_true hne, Bool.true_and, ← Array.all_toList, show (toS (n : Int)).cps.toList = TL.numL n from ht, List.all_eq_true]
    intro c hc
    obtain ⟨c1, c2⟩ := digs c hc
    have : c = 48 ∨ c = 49 ∨ c = 50 ∨ c = 51 ∨ c = 52 ∨ c = 53 ∨ c = 54 ∨ c = 55 ∨ c = 56 ∨ c = 57 := by omega
    rcases this with rfl | rfl | rfl | rfl | rfl | rfl | rfl | rfl | rfl | rfl <;> decide +kernel
  unfold isNumB
  rw [a1, a2, show decide (30 < (toS (n : Int)).length) = false from decide_eq_false (by omega)]
  rcases Nat.eq_zero_or_pos n with rfl | hp
  · decide +kernel
  · have hs : Txt.startswith (toS (n : Int)) "0" = false := by
      obtain ⟨c, r, e, hc⟩ := numL_head n hp
      unfold Txt.startswith
      rw [PySem.StrLaws.subAt_eq, show (toS (n : Int)).cps.toList = c :: r from ht.trans e]
      refine Bool.and_eq_false_iff.mpr (.inr ?_)
      rw [List.drop_zero, show ("0" : Str).length = 1 from by decide +kernel, show ("0" : Str).cps.toList = [48] from by decide +kernel]
      show ([c] == [48]) = false
      exact beq_eq_false_iff_ne.mpr fun z => hc (by injection z)
    rw [hs]
    simp

/-! ### splitting -/
theorem tl_sp : TL.tl (" " : Str) = [32] := by decide +kernel
theorem tl_nl : TL.tl ("\n" : Str) = [10] := by decide +kernel
theorem tl_sl : TL.tl (" / " : Str) = [32, 47, 32] := by decide +kernel
theorem tl_word (b : Bool) : ∀ c ∈ TL.tl (word b), 97 ≤ c := by cases b <;> decide +kernel
theorem join_two (y a b : Str) : Txt.join y [a, b] = a ++ y ++ b := by
  rw [TL.join_eq]
  refine TL.ext_tl ?_
  rw [TL.tl_join, TL.tl_append, TL.tl_append, List.append_assoc]
  rfl
theorem join_three (y a b c : Str) : Txt.join y [a, b, c] = a ++ y ++ b ++ y ++ c := by
  rw [TL.join_eq]
  refine TL.ext_tl ?_
  rw [TL.tl_join, TL.tl_append, TL.tl_append, TL.tl_append, TL.tl_append, List.append_assoc, List.append_assoc, List.append_assoc]
  rfl
def SdP (s : Sd) : Prop := s.1 < 12 ∧ 0 ≤ s.2.2 ∧ s.2.2 < 10 ^ 30
def RlP (q : Rl) : Prop := SdP q.1 ∧ SdP q.2
theorem SdP.thing {s : Sd} (h : SdP s) : (0 : Int) ≤ (s.1 : Int) ∧ (s.1 : Int) < 10 ^ 30 := ⟨by omega, Int.lt_of_lt_of_le (show (s.1 : Int) < 12 by have := h.1; omega) (by decide)⟩
theorem side_join (s : Sd) : sideT s = Txt.join " " [toS s.1, word s.2.1, toS s.2.2] := (join_three _ _ _ _).symm
theorem split_side {s : Sd} (h : SdP s) : Txt.split (sideT s) " " = [toS s.1, word s.2.1, toS s.2.2] := by
  rw [side_join]
  refine TL.split_join tl_sp (by decide +kernel) (by simp) fun p hp => ?_
  simp only [List.mem_cons, List.not_mem_nil, or_false] at hp
  rcases hp with rfl | rfl | rfl
  · exact toS_free h.thing.1 (by decide)
  · intro z
    have := tl_word _ _ z
    omega
  · exact toS_free h.2.1 (by decide)
theorem side_free {s : Sd} (h : SdP s) {c : Nat} (hc : c ≠ 32) (h1 : c < 48) : c ∉ TL.tl (sideT s) := by
  unfold sideT
  rw [TL.tl_append, TL.tl_append, TL.tl_append, TL.tl_append, tl_sp]
  intro z
  simp only [List.mem_append, List.mem_cons, List.not_mem_nil, or_false] at z
  rcases z with (((z | z) | z) | z) | z
  · exact toS_free h.thing.1 (.inl h1) z
  · exact hc z
  · have := tl_word _ _ z
    omega
  · exact hc z
  · exact toS_free h.2.1 (.inl h1) z
theorem split_rule {q : Rl} (h : RlP q) : Txt.split (ruleT q) " / " = [sideT q.1, sideT q.2] := by
  refine TL.map_tl_inj ?_
  rw [TL.split_spl _ _ (by rw [tl_sl]; simp) (TL.kind_ok (by decide +kernel)), tl_sl]
  unfold ruleT
  rw [TL.tl_append, TL.tl_append, tl_sl, List.append_assoc]
  have f1 := side_free h.1 (c := 47) (by decide) (by decide)
  have f2 := side_free h.2 (c := 47) (by decide) (by decide)
  have nx : ∀ (p r : List Nat), 47 ∉ p → (r = [] ∨ ∃ r', r = 32 :: r') → ∀ i, i < p.length → TL.pre [32, 47, 32] ((p ++ r).drop i) = false := fun p r hp hr i hi => by
    have hlt : i < (p ++ r).length := by rw [List.length_append]; omega
    rw [List.drop_eq_getElem_cons hlt]
    cases hd : (p ++ r).drop (i + 1) with
    | nil => unfold TL.pre; exact beq_eq_false_iff_ne.mpr (by simp)
    | cons x xs =>
      have hx : x ≠ 47 := by
        have e : (p ++ r)[i + 1]? = some x := by
          have := congrArg (·[0]?) hd
          simpa [List.getElem?_drop] using this
        intro z
        subst z
        by_cases h2 : i + 1 < p.length
        · rw [List.getElem?_append_left h2] at e
          exact hp (List.mem_of_getElem? e)
        · rw [List.getElem?_append_right (by omega), show i + 1 - p.length = 0 by omega] at e
          rcases hr with rfl | ⟨r', rfl⟩
          · cases e
          · simp at e
      unfold TL.pre
      refine beq_eq_false_iff_ne.mpr fun z => hx ?_
      simp at z
      exact z.2.1
  rw [TL.spl_part (by simp) (nx _ _ f1 (.inr ⟨_, rfl⟩)), TL.spl_last (fun i hi => by
    have := nx _ [] f2 (.inl rfl) i hi
    rwa [List.append_nil] at this)]
  rfl
theorem free_join {y : Str} {c : Nat} (hy : c ∉ TL.tl y) : ∀ {ps : List Str}, (∀ p ∈ ps, c ∉ TL.tl p) → c ∉ TL.tl (Txt.join y ps) := fun {ps} h => by
  rw [TL.join_eq, TL.tl_join]
  have : ∀ l : List (List Nat), (∀ p ∈ l, c ∉ p) → c ∉ TL.joinL (TL.tl y) l := by
    intro l
    induction l with
    | nil => intro _ z; cases z
    | cons p r ih =>
      intro hl
      cases r with
      | nil => exact hl p (List.mem_singleton.mpr rfl)
      | cons q r =>
        intro z
        have z' : c ∈ p ++ (TL.tl y ++ TL.joinL (TL.tl y) (q :: r)) := z
        rcases List.mem_append.mp z' with z | z
        · exact hl p (List.mem_cons_self ..) z
        · rcases List.mem_append.mp z with z | z
          · exact hy z
          · exact ih (fun x hx => hl x (List.mem_cons_of_mem _ hx)) z
  refine this _ fun p hp => ?_
  obtain ⟨z, hz, rfl⟩ := List.mem_map.mp hp
  exact h z hz
theorem split_stand {xs : List Int} (ne : xs ≠ []) (h : Pl xs) : Txt.split (standT xs) " " = xs.map toS :=
  TL.split_join tl_sp (by decide +kernel) (by simpa using ne) fun p hp => by
    obtain ⟨x, hx, rfl⟩ := List.mem_map.mp hp
    exact toS_free (h x hx).1 (by decide)
theorem part_tops (xs : List Int) : Txt.partition (topsT xs) " " = (("things" : Str), (" " : Str), standT xs) := TL.partition_app (y := " ") (a := "things") tl_sp (by decide +kernel)
theorem part_row (q : Rl) : Txt.partition (rowT q) " " = (("rule" : Str), (" " : Str), ruleT q) := TL.partition_app (y := " ") (a := "rule") tl_sp (by decide +kernel)
theorem nl_tops {xs : List Int} (h : Pl xs) : 10 ∉ TL.tl (topsT xs) := by
  unfold topsT
  rw [TL.tl_append, TL.tl_append]
  intro z
  rcases List.mem_append.mp z with z | z
  · exact absurd z (by decide +kernel)
  · exact free_join (by decide +kernel) (fun p hp => by
      obtain ⟨x, hx, rfl⟩ := List.mem_map.mp hp
      exact toS_free (h x hx).1 (by decide)) z
theorem nl_row {q : Rl} (h : RlP q) : 10 ∉ TL.tl (rowT q) := by
  unfold rowT ruleT
  rw [TL.tl_append, TL.tl_append, TL.tl_append, TL.tl_append]
  intro z
  rcases List.mem_append.mp z with z | z
  · exact absurd z (by decide +kernel)
  · rcases List.mem_append.mp z with z | z
    · rcases List.mem_append.mp z with z | z
      · exact side_free h.1 (by decide) (by decide) z
      · exact absurd z (by decide +kernel)
    · exact side_free h.2 (by decide) (by decide) z
theorem split_plan {tops : List Int} {rs : List Rl} (ht : Pl tops) (hr : ∀ q ∈ rs, RlP q) : Txt.split (planT tops rs) "\n" = rowsT tops rs :=
  TL.split_join tl_nl (by decide +kernel) (by unfold rowsT; simp) fun p hp => by
    rcases List.mem_cons.mp hp with rfl | hp
    · exact nl_tops ht
    · obtain ⟨q, hq, rfl⟩ := List.mem_map.mp hp
      exact nl_row (hr q hq)

/-! ### lengths -/
theorem len_word (b : Bool) : (word b).length ≤ 4 := by cases b <;> decide +kernel
theorem len_side {s : Sd} (h : SdP s) : (sideT s).length ≤ 66 := by
  unfold sideT
  rw [len_app, len_app, len_app, len_app]
  have a := toS_len h.thing.1 h.thing.2
  have b := toS_len h.2.1 h.2.2
  have c := len_word s.2.1
  have d : (" " : Str).length = 1 := by decide +kernel
  omega
theorem len_rule {q : Rl} (h : RlP q) : (ruleT q).length ≤ 135 := by
  unfold ruleT
  rw [len_app, len_app]
  have a := len_side h.1
  have b := len_side h.2
  have d : (" / " : Str).length = 3 := by decide +kernel
  omega
theorem len_row {q : Rl} (h : RlP q) : (rowT q).length ≤ 140 := by
  unfold rowT
  rw [len_app, len_app]
  have a := len_rule h
  have d : (" " : Str).length = 1 := by decide +kernel
  have e : ("rule" : Str).length = 4 := by decide +kernel
  omega
theorem len_join (y : Str) (ps : List Str) : (Txt.join y ps).length ≤ (ps.map (·.length)).sum + ps.length * y.length := by
  rw [TL.join_eq, TL.len_tl, TL.tl_join, TL.len_tl y]
  have : ∀ l : List (List Nat), (TL.joinL (TL.tl y) l).length ≤ (l.map List.length).sum + l.length * (TL.tl y).length := by
    intro l
    induction l with
    | nil => exact Nat.zero_le _
    | cons p r ih =>
      cases r with
      | nil => show p.length ≤ _; simp
      | cons q r =>
        show (p ++ (TL.tl y ++ TL.joinL (TL.tl y) (q :: r))).length ≤ _
        rw [List.length_append, List.length_append, List.map_cons, List.sum_cons, List.length_cons, Nat.add_mul, Nat.one_mul]
        omega
  have h := this (ps.map TL.tl)
  rw [List.length_map, List.map_map] at h
  rw [show (ps.map fun x => x.length) = ps.map (List.length ∘ TL.tl) from List.map_congr_left fun x _ => TL.len_tl x]
  exact h
theorem sum_le {α : Type} (f : α → Nat) (c : Nat) : ∀ l : List α, (∀ x ∈ l, f x ≤ c) → (l.map f).sum ≤ l.length * c
  | [], _ => by simp
  | x :: r, h => by
    rw [List.map_cons, List.sum_cons, List.length_cons, Nat.add_mul, Nat.one_mul]
    have := sum_le f c r fun y hy => h y (List.mem_cons_of_mem _ hy)
    have := h x (List.mem_cons_self ..)
    omega
theorem len_stand {xs : List Int} (l : xs.length ≤ 12) (h : Pl xs) : ((xs.map toS).map (·.length)).sum + (xs.map toS).length * (" " : Str).length ≤ 372 := by
  have := sum_le (·.length) 30 (xs.map toS) fun x hx => by
    obtain ⟨y, hy, rfl⟩ := List.mem_map.mp hx
    exact toS_len (h y hy).1 (h y hy).2
  have d : (" " : Str).length = 1 := by decide +kernel
  rw [List.length_map] at this ⊢
  rw [d]
  omega
theorem len_tops {xs : List Int} (l : xs.length ≤ 12) (h : Pl xs) : (topsT xs).length ≤ 379 := by
  unfold topsT
  rw [len_app, len_app]
  have a := Nat.le_trans (len_join " " (xs.map toS)) (len_stand l h)
  have d : (" " : Str).length = 1 := by decide +kernel
  have e : ("things" : Str).length = 6 := by decide +kernel
  have a' : (standT xs).length ≤ 372 := a
  omega
theorem len_rows {tops : List Int} {rs : List Rl} (l : tops.length ≤ 12) (ht : Pl tops) (lr : rs.length ≤ 40) (hr : ∀ q ∈ rs, RlP q) : ((rowsT tops rs).map (·.length)).sum + (rowsT tops rs).length * ("\n" : Str).length ≤ 6100 := by
  unfold rowsT
  have := sum_le (·.length) 140 (rs.map rowT) fun x hx => by
    obtain ⟨y, hy, rfl⟩ := List.mem_map.mp hx
    exact len_row (hr y hy)
  have d : ("\n" : Str).length = 1 := by decide +kernel
  have e := len_tops l ht
  rw [List.length_map] at this
  rw [List.map_cons, List.sum_cons, List.length_cons, List.length_map, d]
  omega
theorem len_plan {tops : List Int} {rs : List Rl} (l : tops.length ≤ 12) (ht : Pl tops) (lr : rs.length ≤ 40) (hr : ∀ q ∈ rs, RlP q) : (planT tops rs).length ≤ 6100 := Nat.le_trans (len_join _ _) (len_rows l ht lr hr)
end K70

set_option Elab.async false
set_option linter.all false
set_option maxRecDepth 100000
namespace K70
open PySem PySem.Spec PyProof.Rows L2 NB

/-! ### letters, of anything -/
def wholeD : PyData → Bool
  | .int _ => true
  | _ => false
def countD : PyData → Bool
  | .int i => decide (0 ≤ i)
  | _ => false
def noneD : PyData → Bool
  | .none => true
  | _ => false
def posD : PyData → Bool
  | .int i => decide (1 ≤ i)
  | _ => false
def standD : PyData → Bool
  | .tuple ps => (decide (1 ≤ ps.length) && decide (ps.length ≤ 12)) && ps.all countD
  | _ => false
def wishD : PyData → Bool
  | .tuple ds => decide (ds.length = 2) && (posD (ds.getD 0 .none) && standD (ds.getD 1 .none))
  | _ => false
def strIs (z : Str) : PyData → Bool
  | .str x => decide (x = z)
  | _ => false
def letterD : PyData → Bool
  | .tuple ds => if ds.length = 2 then strIs "word" (ds.getD 0 .none) && wishD (ds.getD 1 .none)
      else decide (ds.length = 4) && ((strIs "ask" (ds.getD 0 .none) || strIs "leave" (ds.getD 0 .none)) && ((countD (ds.getD 1 .none) && countD (ds.getD 2 .none)) && (noneD (ds.getD 3 .none) || wishD (ds.getD 3 .none))))
  | _ => false
theorem tup_or (d : PyData) : (∃ ds, d = .tuple ds) ∨ isTupD d = false := by
  cases d with
  | tuple ds => exact .inl ⟨ds, rfl⟩
  | _ => exact .inr rfl
theorem not_tup {d : PyData} (h : isTupD d = false) : wishD d = false ∧ letterD d = false ∧ standD d = false := by
  cases d with
  | tuple ds => cases h
  | _ => exact ⟨rfl, rfl, rfl⟩
theorem all_take {α : Type} (g : α → Bool) (xs : List α) (i : Nat) (y : α) (h : xs[i]? = some y) : ((xs.take (i + 1)).map g).map V.bl = ((xs.take i).map g).map V.bl ++ [V.bl (g y)] := by
  rw [List.take_add_one, h, List.map_append, List.map_append]
  rfl
theorem all_id {α : Type} (g : α → Bool) (xs : List α) : (xs.map g).all id = xs.all g := by
  rw [List.all_map]
  rfl
section
variable {P : Program} {w : World} {K : PySem.W.Frag} {mg : Str → Option Value} {base : Heap}
/-- a look at data that leaves all as it is -/
def spLook (g : PyData → Bool) : Sp := fun vs H Q _ => ∃ (n : Addr) (v : V) (d : PyData), vs = [v] ∧ Da n H v d ∧ ∀ H', Same H H' → Q (.bl (g d)) H'
abbrev a_is_whole : Stmt := topS 19
abbrev n_is_whole : List Str := ["thing"]
theorem sc_is_whole : FnScope n_is_whole ["thing"] (defScope a_is_whole) := ⟨rfl, rfl, rfl, by decide +kernel, rfl, by decide +kernel, by decide +kernel⟩
set_option maxHeartbeats 8000000 in
theorem ok_is_whole {f  : Addr} {fd  : FuncData} {k : Nat}  (F : Fun K "is_whole" "is_whole" a_is_whole f fd)   (m_bool : mg "bool" = none) (m_int : mg "int" = none) (m_isinstance : mg "isinstance" = none) : FnOk P w K mg base CX0 (k + 1) f fd ["thing"] (spLook wholeD) := by
  refine F.ok sc_is_whole (fun vs H Q E h => ?_) (fun cdv A outer s H vs Q E hr h => ?_)
  · obtain ⟨n, v, d, rfl, _⟩ := h
    rfl
  · obtain ⟨n, v, d, rfl, hd, q⟩ := h
    refine ⟨_, (pss_one (ps_ret (pe_and (pe_callB call_isiD (by rfl) m_isinstance (by decide +kernel) (pa_cons (pv 0) (pa_cons (pe_bltn (v := .ty "int") (u := .type "int") (by rfl) m_int (by decide +kernel) rfl) pa_nil))) (pe_one (pe_not (pe_callB call_isiD (by rfl) m_isinstance (by decide +kernel) (pa_cons (pv 0) (pa_cons (pe_bltn (v := .ty "bool") (u := .type "bool") (by rfl) m_bool (by decide +kernel) rfl) pa_nil)))))))), ?_⟩
    refine ⟨v, rfl, n, v, d, "int", _, rfl, hd, kit_int d, _, rfl, ?_⟩
    cases hd with
    | int i => exact iteT ⟨_, rfl, n, _, _, "bool", _, rfl, .int i, kit_bool _, _, rfl, q H (Same.refl H)⟩
    | bl b => exact iteT ⟨_, rfl, n, _, _, "bool", _, rfl, .bl b, kit_bool _, _, rfl, q H (Same.refl H)⟩
    | _ => exact iteF (q H (Same.refl H))
abbrev a_is_count : Stmt := topS 29
abbrev n_is_count : List Str := ["thing"]
theorem sc_is_count : FnScope n_is_count ["thing"] (defScope a_is_count) := ⟨rfl, rfl, rfl, by decide +kernel, rfl, by decide +kernel, by decide +kernel⟩
set_option maxHeartbeats 8000000 in
theorem ok_is_count {f fWh : Addr} {fd fdWh : FuncData} {k : Nat}  (F : Fun K "is_count" "is_count" a_is_count f fd) (Wh : Kn P w K mg base 1 "is_whole" ["thing"] (spLook wholeD) fWh fdWh)   : FnOk P w K mg base CX0 (k + 2) f fd ["thing"] (spLook countD) := by
  refine F.ok sc_is_count (fun vs H Q E h => ?_) (fun cdv A outer s H vs Q E hr h => ?_)
  · obtain ⟨n, v, d, rfl, _⟩ := h
    rfl
  · obtain ⟨n, v, d, rfl, hd, q⟩ := h
    refine ⟨_, (pss_one (ps_ret (pe_and (pe_kn Wh hr (by omega) (pa_cons (pv 0) pa_nil)) (pe_one (pe_cmpR op_ge (pv 0) pe_int (nomark _)))))), ?_⟩
    refine ⟨v, rfl, n, v, d, rfl, hd, fun H1 s1 => ⟨_, rfl, ?_⟩⟩
    cases hd with
    | int i => exact iteT ⟨_, rfl, i, 0, rfl, rfl, q H1 s1⟩
    | _ => exact iteF (q H1 s1)
abbrev a_is_wish : Stmt := topS 30
abbrev n_is_wish : List Str := ["thing", "number", "standing", "place"]
theorem sc_is_wish : FnScope n_is_wish ["thing"] (defScope a_is_wish) := ⟨rfl, rfl, rfl, by decide +kernel, rfl, by decide +kernel, by decide +kernel⟩
set_option maxHeartbeats 8000000 in
theorem ok_is_wish {f fWh fCo : Addr} {fd fdWh fdCo : FuncData} {k : Nat} {t1 : Tok} (F : Fun K "is_wish" "is_wish" a_is_wish f fd) (Wh : Kn P w K mg base 1 "is_whole" ["thing"] (spLook wholeD) fWh fdWh) (Co : Kn P w K mg base 2 "is_count" ["thing"] (spLook countD) fCo fdCo) (gv1 : mg "MOST_THINGS" = some (.int 12 t1)) (m_all : mg "all" = none) (m_isinstance : mg "isinstance" = none) (m_len : mg "len" = none) (m_tuple : mg "tuple" = none) : FnOk P w K mg base CX0 (k + 3) f fd ["thing"] (spLook wishD) := by
  refine F.ok sc_is_wish (fun vs H Q E h => ?_) (fun cdv A outer s H vs Q E hr h => ?_)
  · obtain ⟨n, v, d, rfl, _⟩ := h
    rfl
  · obtain ⟨n, v, d, rfl, hd, q⟩ := h
    refine ⟨_, (pss_cons (ps_if (PW.pt (pw_or (pt_not (pt_val (pe_callB call_isiD (by rfl) m_isinstance (by decide +kernel) (pa_cons (pv 0) (pa_cons (pe_bltn (v := .ty "tuple") (u := .type "tuple") (by rfl) m_tuple (by decide +kernel) rfl) pa_nil))))) (pw_or1 (pt_cmpR op_ne (pe_callB call_len_seq (by rfl) m_len (by decide +kernel) (pa_cons (pv 0) pa_nil)) pe_int (nomark _))))) (pss_one (ps_ret pe_bl)) pss_nil)
      (pss_cons (ps_asg (pv 0) (pg_tup rfl (pgs_cons (pg_name (i := 1) sc_is_wish.nd rfl (.inl rfl)) (pgs_cons (pg_name (i := 2) sc_is_wish.nd rfl (.inl rfl)) pgs_nil))))
      (pss_cons (ps_if (PW.pt (pw_or (pt_not (pt_val (pe_kn Wh hr (by omega) (pa_cons (pv 1) pa_nil)))) (pw_or1 (pt_cmpR op_lt (pv 1) pe_int (nomark _))))) (pss_one (ps_ret pe_bl)) pss_nil)
      (pss_cons (ps_if (PW.pt (pw_or (pt_not (pt_val (pe_callB call_isiD (by rfl) m_isinstance (by decide +kernel) (pa_cons (pv 2) (pa_cons (pe_bltn (v := .ty "tuple") (u := .type "tuple") (by rfl) m_tuple (by decide +kernel) rfl) pa_nil))))) (pw_or1 (pt_not (pt_chain op_le op_le pe_int (pe_callB call_len_seq (by rfl) m_len (by decide +kernel) (pa_cons (pv 2) pa_nil)) (pe_glob (v := .int 12) rfl gv1 ⟨_, rfl⟩)))))) (pss_one (ps_ret pe_bl)) pss_nil)
      (pss_one (ps_ret (pe_callB (cr_all rfl) (by rfl) m_all (by decide +kernel) (pa_cons (
        pe_lc (own := [("place", 3)]) (g := (gName 3)) (tt := tYes) (te := (tCall (spLook countD) [] E0 (tCons (tVar 3) tNil))) rfl sc_is_wish.nd (pi_tup (pv 2)) (blkOk_by (N := n_is_wish) (sc := defScope a_is_wish) (by decide +kernel))
          (fun _ _ _ _ _ => (pg_name (i := 3) sc_is_wish.nd rfl (.inl rfl) (hf := .inr rfl))) (fun _ _ _ _ _ => pts_nil) (fun _ _ _ _ _ => (pe_kn Co hr (by omega) (pa_cons (pv 3) pa_nil)))) pa_nil)))))))), ?_⟩
    rcases tup_or d with ⟨ds, rfl⟩ | hn
    · cases hd with
      | tup e ha =>
      rename_i a xs
      have ll := ha.len
      refine ⟨_, rfl, n, _, _, "tuple", _, rfl, .tup e ha, kit_tup _, _, rfl, iteF ⟨_, rfl, a, xs, rfl, .inr (.inl (.inl e)), rfl, _, rfl, ite2 (fun c => ?_) (fun c => ?_)⟩⟩
      · have c' : ¬ ds.length = 2 := fun z => by rw [ll, z] at c; exact absurd c (by decide)
        have : wishD (.tuple ds) = false := by simp [wishD, c']
        rw [this] at q
        exact q H (Same.refl H)
      · have c' : ds.length = 2 := Classical.byContradiction fun z => c (by
          have : ¬ ((xs.length : Int) = 2) := by omega
          simp [this])
        match ds, c', ha with
        | [d0, d1], _, .cons h0 (.cons h1 .nil) =>
        rename_i v0 v1
        have eW : wishD (.tuple [d0, d1]) = (posD d0 && standD d1) := by simp [wishD]
        rw [eW] at q
        refine ⟨_, rfl, a, _, rfl, .inl (.inl e), rfl, _, _, rfl, _, _, rfl, rfl, ?_⟩
        refine ⟨_, rfl, n, _, d0, rfl, h0, fun H1 s1 => ⟨_, rfl, ?_⟩⟩
        cases h0 with
        | int i =>
          refine iteF ⟨_, rfl, i, 1, rfl, rfl, _, rfl, ite2 (fun c => ?_) (fun c => ?_)⟩
          · have : posD (.int i) = false := decide_eq_false (by have := of_decide_eq_true c; omega)
            rw [this] at q
            exact q H1 s1
          · have : posD (.int i) = true := decide_eq_true (by have := of_decide_eq_false (Bool.eq_false_iff.mpr c); omega)
            rw [this, Bool.true_and] at q
            rcases tup_or d1 with ⟨ps, rfl⟩ | hn
            · cases h1 with
              | tup e1 h2 =>
              rename_i b ys
              have l2 := h2.len
              have e1' := s1 _ _ e1
              refine ⟨_, rfl, n, _, _, "tuple", _, rfl, (Da.tup e1 h2).same s1, kit_tup _, _, rfl, iteF ⟨_, rfl, b, ys, rfl, .inr (.inl (.inl e1')), 1, _, rfl, rfl, _, rfl, ?_⟩⟩
              have eS : standD (.tuple ps) = ((decide (1 ≤ ps.length) && decide (ps.length ≤ 12)) && ps.all countD) := rfl
              rw [eS] at q
              refine ite2 (fun c1 => ⟨_, 12, rfl, rfl, _, rfl, ?_⟩) (fun c1 => ?_)
              · have c1' := of_decide_eq_true c1
                refine ite2 (fun c2 => ?_) (fun c2 => ?_)
                · have c2' : ¬ ps.length ≤ 12 := fun z => by
                    have : ((ys.length : Int) ≤ 12) := by omega
                    simp [this] at c2
                  rw [decide_eq_false c2', Bool.and_false, Bool.false_and] at q
                  exact q H1 s1
                · have c2' : ps.length ≤ 12 := Classical.byContradiction fun z => c2 (by
                    have : ¬ ((ys.length : Int) ≤ 12) := by omega
                    simp [this])
                  rw [decide_eq_true c2', decide_eq_true (show 1 ≤ ps.length by omega), Bool.true_and, Bool.true_and] at q
                  refine ⟨_, rfl, b, rfl, ⟨_, .inl (.inl e1')⟩, fun D nD => lc_it (walk_tup (xs := ys)) (fun i H' => Same H1 H' ∧ H' D = some (.lst (((ps.take i).map countD).map V.bl))) ⟨same_new nD, upd_same⟩ (fun i H' _ p => .inl (.inl (p.1 _ _ e1'))) (fun i v H2 H3 hi p y => ?_) (fun H' p => ?_)⟩
                  · obtain ⟨sm, eD⟩ := p
                    obtain ⟨rfl, gv⟩ := y
                    obtain ⟨dd, ed, hdd⟩ := h2.get i v gv
                    refine ⟨wipe1, _, rfl, n, v, dd, rfl, (hdd.same s1).same sm, fun H4 s4 => ⟨_, s4 _ _ eD, ?_, same_over (sm.trans s4) nD, ?_⟩⟩
                    · rw [List.length_map, List.length_map, List.length_take]
                      exact small1000 (by omega)
                    · rw [upd_same, all_take countD ps i dd ed]
                  · obtain ⟨sm, eD⟩ := p
                    rw [show ys.length = ps.length from l2, List.take_length] at eD
                    refine ⟨D, _, rfl, .inl (.inl eD), ?_⟩
                    rw [all_id]
                    exact q H' (s1.trans sm)
              · have c1' : ¬ 1 ≤ ps.length := fun z => c1 (decide_eq_true (by omega))
                refine ⟨false, rfl, iteT ?_⟩
                rw [decide_eq_false c1', Bool.false_and, Bool.false_and] at q
                exact q H1 s1
            · have t := (not_tup hn).2.2
              refine ⟨_, rfl, n, _, d1, "tuple", _, rfl, h1.same s1, kit_tup d1, _, rfl, ?_⟩
              rw [hn]
              rw [t] at q
              exact iteT (q H1 s1)
        | _ => exact iteT (q H1 s1)
    · have t := (not_tup hn).1
      refine ⟨_, rfl, n, _, d, "tuple", _, rfl, hd, kit_tup d, _, rfl, ?_⟩
      rw [hn]
      rw [t] at q
      exact iteT (q H (Same.refl H))
abbrev a_is_letter : Stmt := topS 31
abbrev n_is_letter : List Str := ["thing", "word", "rule", "count", "wish"]
theorem sc_is_letter : FnScope n_is_letter ["thing"] (defScope a_is_letter) := ⟨rfl, rfl, rfl, by decide +kernel, rfl, by decide +kernel, by decide +kernel⟩
set_option maxHeartbeats 8000000 in
theorem ok_is_letter {f fCo fWi : Addr} {fd fdCo fdWi : FuncData} {k : Nat}  (F : Fun K "is_letter" "is_letter" a_is_letter f fd) (Co : Kn P w K mg base 2 "is_count" ["thing"] (spLook countD) fCo fdCo) (Wi : Kn P w K mg base 3 "is_wish" ["thing"] (spLook wishD) fWi fdWi)  (m_isinstance : mg "isinstance" = none) (m_len : mg "len" = none) (m_str : mg "str" = none) (m_tuple : mg "tuple" = none) : FnOk P w K mg base CX0 (k + 4) f fd ["thing"] (spLook letterD) := by
  refine F.ok sc_is_letter (fun vs H Q E h => ?_) (fun cdv A outer s H vs Q E hr h => ?_)
  · obtain ⟨n, v, d, rfl, _⟩ := h
    rfl
  · obtain ⟨n, v, d, rfl, hd, q⟩ := h
    refine ⟨_, (pss_cons (ps_if (PW.pt (pw_or (pt_not (pt_val (pe_callB call_isiD (by rfl) m_isinstance (by decide +kernel) (pa_cons (pv 0) (pa_cons (pe_bltn (v := .ty "tuple") (u := .type "tuple") (by rfl) m_tuple (by decide +kernel) rfl) pa_nil))))) (pw_or (pt_cmpR op_notIn_seq (pe_callB call_len_seq (by rfl) m_len (by decide +kernel) (pa_cons (pv 0) pa_nil)) (pe_tup (pa_cons pe_int (pa_cons pe_int pa_nil))) (by rfl)) (pw_or1 (pt_not (pt_val (pe_callB call_isiD (by rfl) m_isinstance (by decide +kernel) (pa_cons (pe_ix ix_tup (pv 0) pe_int (fun _ _ => rfl)) (pa_cons (pe_bltn (v := .ty "str") (u := .type "str") (by rfl) m_str (by decide +kernel) rfl) pa_nil))))))))) (pss_one (ps_ret pe_bl)) pss_nil)
      (pss_cons (ps_if (pt_cmpR op_eq (pe_callB call_len_seq (by rfl) m_len (by decide +kernel) (pa_cons (pv 0) pa_nil)) pe_int (nomark _)) (pss_one (ps_ret (pe_and (pe_cmpR op_eq (pe_ix ix_tup (pv 0) pe_int (fun _ _ => rfl)) pe_str (nomark _)) (pe_one (pe_kn Wi hr (by omega) (pa_cons (pe_ix ix_tup (pv 0) pe_int (fun _ _ => rfl)) pa_nil)))))) pss_nil)
      (pss_cons (ps_asg (pv 0) (pg_tup rfl (pgs_cons (pg_name (i := 1) sc_is_letter.nd rfl (.inl rfl)) (pgs_cons (pg_name (i := 2) sc_is_letter.nd rfl (.inl rfl)) (pgs_cons (pg_name (i := 3) sc_is_letter.nd rfl (.inl rfl)) (pgs_cons (pg_name (i := 4) sc_is_letter.nd rfl (.inl rfl)) pgs_nil))))))
      (pss_cons (ps_if (PW.pt (pw_or (pt_cmpR op_notIn_seq (pv 1) (pe_tup (pa_cons pe_str (pa_cons pe_str pa_nil))) (by rfl)) (pw_or (pt_not (pt_val (pe_kn Co hr (by omega) (pa_cons (pv 2) pa_nil)))) (pw_or1 (pt_not (pt_val (pe_kn Co hr (by omega) (pa_cons (pv 3) pa_nil)))))))) (pss_one (ps_ret pe_bl)) pss_nil)
      (pss_one (ps_ret (pe_or (pe_cmpR op_isN (pv 4) pe_non (nomark _)) (pe_one (pe_kn Wi hr (by omega) (pa_cons (pv 4) pa_nil)))))))))), ?_⟩
    rcases tup_or d with ⟨ds, rfl⟩ | hn
    · cases hd with
      | tup e ha =>
      rename_i a xs
      have ll := ha.len
      have fl : [V.int 2, V.int 4].all flatV = true := by decide
      refine ⟨_, rfl, n, _, _, "tuple", _, rfl, .tup e ha, kit_tup _, _, rfl, iteF ⟨_, rfl, a, xs, rfl, .inr (.inl (.inl e)), (show 2 ≤ sizeLine by decide), fun t nt => ?_⟩⟩
      have st := same_new (o := HO.tup [V.int 2, V.int 4]) nt
      have e1 := st _ _ e
      have inV2 : inV (V.int xs.length) [V.int 2, V.int 4] = (decide (ds.length = 2) || decide (ds.length = 4)) := by
        rw [ll, inV_int2, Bool.eq_iff_iff]
        simp
        omega
      refine ⟨t, _, rfl, .inr (.inl (.inl upd_same)), rfl, fl, _, rfl, ite2 (fun c => ?_) (fun c => ?_)⟩
      · have c' : (!inV (V.int xs.length) [V.int 2, V.int 4]) = true := c
        rw [inV2] at c'
        simp at c'
        have : letterD (.tuple ds) = false := by simp [letterD, c'.1, c'.2]
        rw [this] at q
        exact q _ st
      · have c' : ¬ (!inV (V.int xs.length) [V.int 2, V.int 4]) = true := c
        rw [inV2] at c'
        simp at c'
        have h24 : ds.length = 2 ∨ ds.length = 4 := by omega
        have g0 : ∃ v0, xs[0]? = some v0 ∧ Da n H v0 (ds.getD 0 .none) := by
          have lt : 0 < xs.length := by omega
          obtain ⟨d0, e0, h0⟩ := ha.get 0 _ (List.getElem?_eq_getElem lt)
          exact ⟨_, List.getElem?_eq_getElem lt, by rw [List.getD_eq_getElem?_getD, e0]; exact h0⟩
        obtain ⟨v0, x0, h0⟩ := g0
        refine ⟨_, rfl, a, xs, 0, v0, rfl, rfl, .inl (.inl e1), atI_nat (j := 0) x0, n, v0, _, "str", _, rfl, h0.same st, kit_str _, _, rfl, ?_⟩
        have out : isStrD (ds.getD 0 .none) = false → letterD (.tuple ds) = false := fun h => by
          have a1 : ∀ z, strIs z (ds.getD 0 .none) = false := fun z => by
            cases hz : ds.getD 0 .none <;> first | rfl | (rw [hz] at h; cases h)
          simp only [letterD, a1, Bool.false_and, Bool.or_self, Bool.and_false]
          split <;> rfl
        cases hs : isStrD (ds.getD 0 .none) with
        | false =>
          rw [out hs] at q
          exact iteT (q _ st)
        | true =>
          refine iteF ?_
          obtain ⟨z, hz⟩ : ∃ z, ds.getD 0 .none = .str z := by
            cases hz : ds.getD 0 .none with
            | str z => exact ⟨z, rfl⟩
            | _ => rw [hz] at hs; cases hs
          rw [hz] at h0
          cases h0
          refine ⟨_, rfl, a, xs, rfl, .inr (.inl (.inl e1)), rfl, _, rfl, ite2 (fun c2 => ?_) (fun c2 => ?_)⟩
          · have l2 : ds.length = 2 := by
              have := of_decide_eq_true c2
              rw [ll] at this
              have := V.int.inj this
              omega
            match ds, l2, ha, hz with
            | [d0, d1], _, .cons h0 (.cons h1 .nil), hz =>
            rename_i w0 w1
            have hz' : d0 = .str z := hz
            subst hz'
            cases h0
            have eL : letterD (.tuple [.str z, d1]) = (decide (z = "word") && wishD d1) := by simp [letterD, strIs]
            rw [eL] at q
            refine ⟨_, rfl, a, _, 0, _, rfl, rfl, .inl (.inl e1), atI_nat (j := 0) rfl, rfl, _, rfl, ite2 (fun c3 => ?_) (fun c3 => ?_)⟩
            · have c3' : z = "word" := V.str.inj (of_decide_eq_true c3)
              rw [decide_eq_true c3', Bool.true_and] at q
              exact ⟨_, rfl, a, _, 1, _, rfl, rfl, .inl (.inl e1), atI_nat (j := 1) rfl, n, _, d1, rfl, h1.same st, fun H1 s1 => q H1 (st.trans s1)⟩
            · have c3' : ¬ z = "word" := fun hh => c3 (decide_eq_true (congrArg V.str hh))
              rw [decide_eq_false c3', Bool.false_and] at q
              exact q _ st
          · have l4 : ds.length = 4 := by
              rcases h24 with h | h
              · exfalso
                refine c2 (decide_eq_true ?_)
                rw [ll, h]
                rfl
              · exact h
            match ds, l4, ha, hz with
            | [d0, d1, d2, d3], _, .cons h0 (.cons h1 (.cons h2 (.cons h3 .nil))), hz =>
            rename_i w0 w1 w2 w3
            have hz' : d0 = .str z := hz
            subst hz'
            cases h0
            have eL : letterD (.tuple [.str z, d1, d2, d3]) = ((decide (z = "ask") || decide (z = "leave")) && ((countD d1 && countD d2) && (noneD d3 || wishD d3))) := by simp [letterD, strIs]
            rw [eL] at q
            refine ⟨_, rfl, a, _, rfl, .inl (.inl e1), rfl, _, _, rfl, _, _, rfl, _, _, rfl, _, _, rfl, rfl, ?_⟩
            refine ⟨_, rfl, (show 2 ≤ sizeLine by decide), fun t2 nt2 => ?_⟩
            have s2 := st.trans (same_new (o := HO.tup [V.str "ask", V.str "leave"]) nt2)
            have fl2 : [V.str "ask", V.str "leave"].all flatV = true := by decide
            have inS : inV (V.str z) [V.str "ask", V.str "leave"] = (decide (z = "ask") || decide (z = "leave")) := inV_str2 _ _ _
            refine ⟨t2, _, rfl, .inr (.inl (.inl upd_same)), rfl, fl2, _, rfl, ite2 (fun c3 => ?_) (fun c3 => ?_)⟩
            · have c3' : (!inV (V.str z) [V.str "ask", V.str "leave"]) = true := c3
              rw [inS] at c3'
              have c4 : (decide (z = "ask") || decide (z = "leave")) = false := by simpa using c3'
              rw [c4, Bool.false_and] at q
              exact q _ s2
            · have c3' : ¬ (!inV (V.str z) [V.str "ask", V.str "leave"]) = true := c3
              rw [inS] at c3'
              have c4 : (decide (z = "ask") || decide (z = "leave")) = true := by
                cases hh : (decide (z = "ask") || decide (z = "leave")) with
                | true => rfl
                | false => rw [hh] at c3'; exact absurd rfl c3'
              rw [c4, Bool.true_and] at q
              refine ⟨_, rfl, n, _, d1, rfl, h1.same s2, fun H3 s3 => ⟨_, rfl, ?_⟩⟩
              cases k1 : countD d1 with
              | false =>
                rw [k1, Bool.false_and, Bool.false_and] at q
                exact iteT (q _ (s2.trans s3))
              | true =>
                refine iteF ⟨_, rfl, n, _, d2, rfl, h2.same (s2.trans s3), fun H4 s4 => ⟨_, rfl, ?_⟩⟩
                have s04 := (s2.trans s3).trans s4
                rw [k1, Bool.true_and] at q
                cases k2 : countD d2 with
                | false =>
                  rw [k2, Bool.false_and] at q
                  exact iteT (q _ s04)
                | true =>
                  refine iteF ⟨_, rfl, rfl, _, rfl, ?_⟩
                  rw [k2, Bool.true_and] at q
                  cases h3 with
                  | non => exact iteT (q _ s04)
                  | bl b => exact iteF ⟨_, rfl, n, _, _, rfl, .bl b, fun H5 s5 => q H5 (s04.trans s5)⟩
                  | int i => exact iteF ⟨_, rfl, n, _, _, rfl, .int i, fun H5 s5 => q H5 (s04.trans s5)⟩
                  | str x => exact iteF ⟨_, rfl, n, _, _, rfl, .str x, fun H5 s5 => q H5 (s04.trans s5)⟩
                  | lst a1 a2 a3 a4 => exact iteF ⟨_, rfl, n, _, _, rfl, (Da.lst a1 a2 a3 a4).same s04, fun H5 s5 => q H5 (s04.trans s5)⟩
                  | tup a1 a2 => exact iteF ⟨_, rfl, n, _, _, rfl, (Da.tup a1 a2).same s04, fun H5 s5 => q H5 (s04.trans s5)⟩
                  | dct a1 a2 => exact iteF ⟨_, rfl, n, _, _, rfl, (Da.dct a1 a2).same s04, fun H5 s5 => q H5 (s04.trans s5)⟩
    · have t := (not_tup hn).2.1
      refine ⟨_, rfl, n, _, d, "tuple", _, rfl, hd, kit_tup d, _, rfl, ?_⟩
      rw [hn]
      rw [t] at q
      exact iteT (q H (Same.refl H))
end
end K70

set_option Elab.async false
set_option linter.all false
set_option maxRecDepth 100000
namespace K70
open PySem PySem.Spec PyProof.Rows L2 NB

/-! ### a plan written -/
theorem take_strs {ys : List Str} {i : Nat} {y : Str} (h : ys[i]? = some y) : (ys.take (i + 1)).map V.str = (ys.take i).map V.str ++ [V.str y] := by
  rw [List.take_add_one, h, List.map_append]
  rfl
theorem fits {n : Nat} (h : n ≤ 10000) : n ≤ sizeLine := Nat.le_trans h (by decide)
theorem RlOk_P {tops : List Int} (l12 : tops.length ≤ 12) (pl : Pl tops) {q : Rl} (h : RuleOk tops q) : RlP q := by
  have one : ∀ s : Sd, SideOk tops s → SdP s := fun s ⟨t, e, h0, h1⟩ => ⟨by
    have := (List.getElem?_eq_some_iff.mp e).1
    omega, h0, by
    have := (pl t (List.mem_of_getElem? e)).2
    omega⟩
  exact ⟨one _ h.1, one _ h.2⟩
def spShSide : Sp := fun vs H Q _ => ∃ (p : Addr) (s : Sd), vs = [.ref p] ∧ SideAt H p s ∧ SdP s ∧ Q (.str (sideT s)) H
def spShRule : Sp := fun vs H Q _ => ∃ (p : Addr) (rl : Rl), vs = [.ref p] ∧ RuleAt H p rl ∧ RlP rl ∧ ∀ H', Same H H' → Q (.str (ruleT rl)) H'
def spShStand : Sp := fun vs H Q _ => ∃ (p : Addr) (xs : List Int), vs = [.ref p] ∧ H p = some (.tup (xs.map V.int)) ∧ Pl xs ∧ xs.length ≤ 12 ∧ ∀ H', Same H H' → Q (.str (standT xs)) H'
def spPRows : Sp := fun vs H Q _ => ∃ (t R : Addr) (tops : List Int) (rs : List Rl), vs = [.ref t, .ref R] ∧ H t = some (.tup (tops.map V.int)) ∧ RulesAt H R rs ∧ Pl tops ∧ tops.length ≤ 12 ∧ rs.length ≤ 40 ∧ (∀ r ∈ rs, RlP r) ∧
  ∀ H' D, Same H H' → H' D = some (.lst ((rowsT tops rs).map V.str)) → Q (.ref D) H'
def spShPlan (C : Addr) : Sp := fun vs H Q _ => ∃ (x : Addr) (tops : List Int) (rs : List Rl), vs = [.ref x] ∧ PlanAt C H x tops rs ∧ Pl tops ∧ tops.length ≤ 12 ∧ rs.length ≤ 40 ∧ (∀ r ∈ rs, RlP r) ∧ ∀ H', Same H H' → Q (.str (planT tops rs)) H'
def spPLen (C : Addr) : Sp := fun vs H Q _ => ∃ (x : Addr) (tops : List Int) (rs : List Rl), vs = [.ref x] ∧ PlanAt C H x tops rs ∧ Q (.int tops.length) H
abbrev kLen : Stmt := inClass (topS 27) 2
abbrev kStr : Stmt := inClass (topS 27) 3
theorem scLen : FnScope ["self"] ["self"] (defScope kLen) := ⟨rfl, rfl, rfl, by decide +kernel, rfl, by decide +kernel, by decide +kernel⟩
theorem scStr : FnScope ["self"] ["self"] (defScope kStr) := ⟨rfl, rfl, rfl, by decide +kernel, rfl, by decide +kernel, by decide +kernel⟩
section
variable {P : Program} {w : World} {K : PySem.W.Frag} {mg : Str → Option Value} {base : Heap}
abbrev a_show_side : Stmt := topS 2
abbrev n_show_side : List Str := ["side", "thing", "word", "place"]
theorem sc_show_side : FnScope n_show_side ["side"] (defScope a_show_side) := ⟨rfl, rfl, rfl, by decide +kernel, rfl, by decide +kernel, by decide +kernel⟩
set_option maxHeartbeats 8000000 in
theorem ok_show_side {f  : Addr} {fd  : FuncData} {k : Nat}  (F : Fun K "show_side" "show_side" a_show_side f fd)    : FnOk P w K mg base CX0 (k + 1) f fd ["side"] spShSide := by
  refine F.ok sc_show_side (fun vs H Q E h => ?_) (fun cdv A outer s H vs Q E hr h => ?_)
  · obtain ⟨p, sd, rfl, _⟩ := h
    rfl
  · obtain ⟨p, sd, rfl, es, hs, q⟩ := h
    refine ⟨_, (pss_cons (ps_asg (pv 0) (pg_tup rfl (pgs_cons (pg_name (i := 1) sc_show_side.nd rfl (.inl rfl)) (pgs_cons (pg_name (i := 2) sc_show_side.nd rfl (.inl rfl)) (pgs_cons (pg_name (i := 3) sc_show_side.nd rfl (.inl rfl)) pgs_nil)))))
      (pss_one (ps_ret (pe_joined (.cons (pe_fmt (pv 1)) (.cons pe_str (.cons (pe_fmt (pv 2)) (.cons pe_str (.cons (pe_fmt (pv 3)) .nil))))))))), ?_⟩
    refine ⟨.ref p, rfl, p, _, rfl, .inl (.inl es), rfl, _, _, rfl, _, _, rfl, _, _, rfl, rfl, ?_⟩
    have a1 : (Str.ofString (toString (sd.1 : Int))).length ≤ 30 := toS_len hs.thing.1 hs.thing.2
    have a2 : (Str.ofString (toString sd.2.2)).length ≤ 30 := toS_len hs.2.1 hs.2.2
    have a3 := len_word sd.2.1
    have a4 : (" " : Str).length = 1 := by decide +kernel
    have a5 : Str.empty.length = 0 := by decide +kernel
    refine ⟨_, rfl, .inr ⟨_, rfl, small_log hs.thing.1 hs.thing.2, _, rfl, fits (by simp only [len_app]; omega), ?_⟩⟩
    refine ⟨_, rfl, fits (by simp only [len_app]; omega), ?_⟩
    refine ⟨_, rfl, .inl ⟨_, rfl, fits (by omega), _, rfl, fits (by simp only [len_app]; omega), ?_⟩⟩
    refine ⟨_, rfl, fits (by simp only [len_app]; omega), ?_⟩
    refine ⟨_, rfl, .inr ⟨_, rfl, small_log hs.2.1 hs.2.2, _, rfl, fits (by simp only [len_app]; omega), ?_⟩⟩
    show Q (.str _) H
    rw [em_app]
    exact q
abbrev a_show_rule : Stmt := topS 3
abbrev n_show_rule : List Str := ["rule", "side"]
theorem sc_show_rule : FnScope n_show_rule ["rule"] (defScope a_show_rule) := ⟨rfl, rfl, rfl, by decide +kernel, rfl, by decide +kernel, by decide +kernel⟩
set_option maxHeartbeats 8000000 in
theorem ok_show_rule {f fSs : Addr} {fd fdSs : FuncData} {k : Nat}  (F : Fun K "show_rule" "show_rule" a_show_rule f fd) (Ss : Kn P w K mg base 1 "show_side" ["side"] spShSide fSs fdSs)   : FnOk P w K mg base CX0 (k + 2) f fd ["rule"] spShRule := by
  refine F.ok sc_show_rule (fun vs H Q E h => ?_) (fun cdv A outer s H vs Q E hr h => ?_)
  · obtain ⟨p, rl, rfl, _⟩ := h
    rfl
  · obtain ⟨p, rl, rfl, er, hp, q⟩ := h
    refine ⟨_, (pss_one (ps_ret (pe_join pe_str (
        pe_lc (own := [("side", 1)]) (g := (gName 1)) (tt := tYes) (te := (tCall spShSide [] E0 (tCons (tVar 1) tNil))) rfl sc_show_rule.nd (pi_tup (pv 0)) (blkOk_by (N := n_show_rule) (sc := defScope a_show_rule) (by decide +kernel))
          (fun _ _ _ _ _ => (pg_name (i := 1) sc_show_rule.nd rfl (.inl rfl) (hf := .inr rfl))) (fun _ _ _ _ _ => pts_nil) (fun _ _ _ _ _ => (pe_kn Ss hr (by omega) (pa_cons (pv 1) pa_nil))))))), ?_⟩
    obtain ⟨p1, p2, er, s1, s2⟩ := er
    refine ⟨⟨_, rfl⟩, .ref p, rfl, p, rfl, ⟨_, .inl (.inl er)⟩, fun D nD => lc_it (walk_tup (xs := [V.ref p1, V.ref p2])) (fun i H' => Same H H' ∧ H' D = some (.lst (([sideT rl.1, sideT rl.2].take i).map V.str))) ⟨same_new nD, upd_same⟩ (fun i H' _ p => .inl (.inl (p.1 _ _ er))) (fun i v H1 H2 hi z y => ?_) (fun H' z => ?_)⟩
    · obtain ⟨sm, eD⟩ := z
      obtain ⟨rfl, gv⟩ := y
      obtain ⟨pp, sd, rfl, es, hs, ey⟩ : ∃ (pp : Addr) (sd : Sd), v = .ref pp ∧ SideAt H pp sd ∧ SdP sd ∧ [sideT rl.1, sideT rl.2][i]? = some (sideT sd) := by
        have hi2 : i < 2 := hi
        match i, hi2, gv with
        | 0, _, gv => exact ⟨p1, rl.1, (Option.some.inj gv).symm, s1, hp.1, rfl⟩
        | 1, _, gv => exact ⟨p2, rl.2, (Option.some.inj gv).symm, s2, hp.2, rfl⟩
      refine ⟨rfl, .ref pp, rfl, pp, sd, rfl, es.keep (.same sm), hs, _, eD, by rw [List.length_map, List.length_take]; exact small1000 (Nat.le_trans (Nat.min_le_right _ _) (show 2 ≤ 1000 by decide)), same_over sm nD, ?_⟩
      rw [upd_same, take_strs ey]
    · obtain ⟨sm, eD⟩ := z
      refine ⟨_, D, [sideT rl.1, sideT rl.2], rfl, rfl, .inl (.inl (.inl eD)), ?_, ?_⟩
      · have a := len_side hp.1
        have b := len_side hp.2
        have c : (" / " : Str).length = 3 := by decide +kernel
        simp only [List.map_cons, List.map_nil, List.sum_cons, List.sum_nil, List.length_cons, List.length_nil]
        omega
      · rw [join_two]
        exact q H' sm
abbrev a_show_standing : Stmt := topS 4
abbrev n_show_standing : List Str := ["standing", "place"]
theorem sc_show_standing : FnScope n_show_standing ["standing"] (defScope a_show_standing) := ⟨rfl, rfl, rfl, by decide +kernel, rfl, by decide +kernel, by decide +kernel⟩
set_option maxHeartbeats 8000000 in
theorem ok_show_standing {f  : Addr} {fd  : FuncData} {k : Nat}  (F : Fun K "show_standing" "show_standing" a_show_standing f fd)   (m_str : mg "str" = none) : FnOk P w K mg base CX0 (k + 1) f fd ["standing"] spShStand := by
  refine F.ok sc_show_standing (fun vs H Q E h => ?_) (fun cdv A outer s H vs Q E hr h => ?_)
  · obtain ⟨p, xs, rfl, _⟩ := h
    rfl
  · obtain ⟨p, xs, rfl, ep, pl, l12, q⟩ := h
    refine ⟨_, (pss_one (ps_ret (pe_join pe_str (
        pe_lc (own := [("place", 1)]) (g := (gName 1)) (tt := tYes) (te := (tTxStr (tCons (tVar 1) tNil))) rfl sc_show_standing.nd (pi_tup (pv 0)) (blkOk_by (N := n_show_standing) (sc := defScope a_show_standing) (by decide +kernel))
          (fun _ _ _ _ _ => (pg_name (i := 1) sc_show_standing.nd rfl (.inl rfl) (hf := .inr rfl))) (fun _ _ _ _ _ => pts_nil) (fun _ _ _ _ _ => (pe_callTy call_str_int (by rfl) m_str (by decide +kernel) (pa_cons (pv 1) pa_nil))))))), ?_⟩
    refine ⟨⟨_, rfl⟩, .ref p, rfl, p, rfl, ⟨_, .inl (.inl ep)⟩, fun D nD => lc_it (walk_tup (xs := xs.map V.int)) (fun i H' => Same H H' ∧ H' D = some (.lst (((xs.map toS).take i).map V.str))) ⟨same_new nD, upd_same⟩ (fun i H' _ z => .inl (.inl (z.1 _ _ ep))) (fun i v H1 H2 hi z y => ?_) (fun H' z => ?_)⟩
    · obtain ⟨sm, eD⟩ := z
      obtain ⟨rfl, gv⟩ := y
      obtain ⟨x, ex, rfl⟩ := mapGet gv
      have hx := pl x (List.mem_of_getElem? ex)
      refine ⟨rfl, _, rfl, x, rfl, small_log hx.1 hx.2, _, eD, by rw [List.length_map, List.length_take, List.length_map]; exact small1000 (Nat.le_trans (Nat.min_le_right _ _) (by omega)), same_over sm nD, ?_⟩
      rw [upd_same, take_strs (y := toS x) (by rw [List.getElem?_map, ex]; rfl)]
    · obtain ⟨sm, eD⟩ := z
      rw [List.take_of_length_le (by rw [List.length_map, List.length_map]; exact Nat.le_refl _)] at eD
      exact ⟨_, D, xs.map toS, rfl, rfl, .inl (.inl (.inl eD)), Nat.le_trans (len_stand l12 pl) (by decide), q H' sm⟩
abbrev a_plan_rows : Stmt := topS 9
abbrev n_plan_rows : List Str := ["tops", "rules", "rule"]
theorem sc_plan_rows : FnScope n_plan_rows ["tops", "rules"] (defScope a_plan_rows) := ⟨rfl, rfl, rfl, by decide +kernel, rfl, by decide +kernel, by decide +kernel⟩
set_option maxHeartbeats 8000000 in
theorem ok_plan_rows {f fSt fRu : Addr} {fd fdSt fdRu : FuncData} {k : Nat}  (F : Fun K "plan_rows" "plan_rows" a_plan_rows f fd) (St : Kn P w K mg base 1 "show_standing" ["standing"] spShStand fSt fdSt) (Ru : Kn P w K mg base 2 "show_rule" ["rule"] spShRule fRu fdRu)   : FnOk P w K mg base CX0 (k + 3) f fd ["tops", "rules"] spPRows := by
  refine F.ok sc_plan_rows (fun vs H Q E h => ?_) (fun cdv A outer s H vs Q E hr h => ?_)
  · obtain ⟨t, R, tops, rs, rfl, _⟩ := h
    rfl
  · obtain ⟨t, R, tops, rs, rfl, et, eR, pl, l12, l40, hp, q⟩ := h
    refine ⟨_, (pss_one (ps_ret (pe_op op_cat (pe_lst (pa_cons (pe_joined (.cons pe_str (.cons (pe_fmt (pe_kn St hr (by omega) (pa_cons (pv 0) pa_nil))) .nil))) pa_nil)) (
        pe_lc (own := [("rule", 2)]) (g := (gName 2)) (tt := tYes) (te := (tJoined [(tC (.str "rule ")), tFmt (tCall spShRule [] E0 (tCons (tVar 2) tNil))])) rfl sc_plan_rows.nd (pi_tup (pv 1)) (blkOk_by (N := n_plan_rows) (sc := defScope a_plan_rows) (by decide +kernel))
          (fun _ _ _ _ _ => (pg_name (i := 2) sc_plan_rows.nd rfl (.inl rfl) (hf := .inr rfl))) (fun _ _ _ _ _ => pts_nil) (fun _ _ _ _ _ => (pe_joined (.cons pe_str (.cons (pe_fmt (pe_kn Ru hr (by omega) (pa_cons (pv 2) pa_nil))) .nil)))))))), ?_⟩
    obtain ⟨as, eR, ll, ra⟩ := eR
    have a4 : ("things " : Str).length = 7 := by decide +kernel
    have a6 : ("rule " : Str).length = 5 := by decide +kernel
    have a5 : Str.empty.length = 0 := by decide +kernel
    have ls : (standT tops).length ≤ 372 := Nat.le_trans (len_join " " (tops.map toS)) (len_stand l12 pl)
    refine ⟨_, rfl, fits (by simp only [len_app]; omega), .ref t, rfl, t, tops, rfl, et, pl, l12, fun H1 s1 => .inl ⟨_, rfl, fits (by omega), _, rfl, fits (by simp only [len_app]; omega), (show 1 ≤ sizeLine by decide), fun l nl => ?_⟩⟩
    have e0 : Str.empty ++ "things " ++ standT tops = topsT tops := by
      rw [em_app]
      unfold topsT
      rw [show ("things " : Str) = "things" ++ " " from by decide +kernel]
    have e1 : ∀ x : Str, Str.empty ++ "rule " ++ x = "rule" ++ " " ++ x := fun x => by
      rw [em_app, show ("rule " : Str) = "rule" ++ " " from by decide +kernel]
    rw [e0]
    have s2 := s1.trans (same_new (o := .lst [V.str (topsT tops)]) nl)
    have el : (upd H1 l (.lst [V.str (topsT tops)])) l = some (.lst [V.str (topsT tops)]) := upd_same
    generalize upd H1 l (.lst [V.str (topsT tops)]) = H2 at s2 el ⊢
    refine ⟨.ref R, rfl, R, rfl, ⟨_, .inl (.inl (s2 _ _ eR))⟩, fun D nD => lc_it (walk_tup (xs := as.map V.ref)) (fun i H' => Same H2 H' ∧ H' D = some (.lst (((rs.map rowT).take i).map V.str))) ⟨same_new nD, upd_same⟩ (fun i H' _ z => .inl (.inl (z.1 _ _ (s2 _ _ eR)))) (fun i v H3 H4 hi z y => ?_) (fun H' z => ?_)⟩
    · obtain ⟨sm, eD⟩ := z
      obtain ⟨rfl, gv⟩ := y
      obtain ⟨r, er, rfl⟩ := mapGet gv
      have hi' : i < rs.length := by
        have := (List.getElem?_eq_some_iff.mp er).1
        omega
      have eq' := List.getElem?_eq_getElem hi'
      have hr' := hp _ (List.getElem_mem hi')
      refine ⟨rfl, _, rfl, fits (by simp only [len_app]; omega), .ref r, rfl, r, rs[i], rfl, (ra i r _ er eq').keep (.same (s2.trans sm)), hr', fun H5 s5 => .inl ⟨_, rfl, fits (by have := len_rule hr'; omega), _, rfl, fits (by have := len_rule hr'; simp only [len_app]; omega), _, s5 _ _ eD, by rw [List.length_map, List.length_take, List.length_map]; exact small1000 (Nat.le_trans (Nat.min_le_right _ _) (by omega)), same_over (sm.trans s5) nD, ?_⟩⟩
      rw [upd_same, take_strs (y := rowT rs[i]) (by rw [List.getElem?_map, eq']; rfl), e1]
      rfl
    · obtain ⟨sm, eD⟩ := z
      rw [List.take_of_length_le (by rw [List.length_map, List.length_map, ll]; exact Nat.le_refl _)] at eD
      refine ⟨l, D, _, _, rfl, rfl, sm _ _ el, eD, by rw [List.length_map, List.length_map]; exact fits (by simp only [List.length_cons, List.length_nil]; omega), fun p np => q _ p ((s2.trans sm).trans (same_new np)) upd_same⟩
theorem ok_len {f C : Addr} {fd : FuncData} {k : Nat} (F : Fun K "__len__" "Plan.__len__" kLen f fd) (T : PlanTxt K mg C) (ml : mg "len" = none) : FnOk P w K mg base CX0 (k + 1) f fd ["self"] (spPLen C) := by
  refine F.ok scLen (fun vs H Q E h => ?_) (fun cdv A outer s H vs Q E hr h => ?_)
  · obtain ⟨x, tops, rs, rfl, _⟩ := h
    rfl
  · obtain ⟨x, tops, rs, rfl, ⟨dx, t, R, ex, et, eR⟩, q⟩ := h
    refine ⟨_, pss_one (ps_ret (pe_callB call_len_seq (by rfl) ml PySem.boot_len (pa_cons (pe_fld (pv 0) rfl) pa_nil))), ?_⟩
    refine ⟨.ref x, rfl, x, C, dx, _, _, rfl, ex, T.cl, T.nT, look_tops _ _, t, _, rfl, .inr (.inl (.inl et)), ?_⟩
    rw [List.length_map]
    exact q
theorem ok_str {f C fP : Addr} {fd fdP : FuncData} {k : Nat} (F : Fun K "__str__" "Plan.__str__" kStr f fd) (Pr : Kn P w K mg base 3 "plan_rows" ["tops", "rules"] spPRows fP fdP) (T : PlanTxt K mg C) : FnOk P w K mg base CX0 (k + 4) f fd ["self"] (spShPlan C) := by
  refine F.ok scStr (fun vs H Q E h => ?_) (fun cdv A outer s H vs Q E hr h => ?_)
  · obtain ⟨x, tops, rs, rfl, _⟩ := h
    rfl
  · obtain ⟨x, tops, rs, rfl, ⟨dx, t, R, ex, et, eR⟩, pl, l12, l40, hp, q⟩ := h
    refine ⟨_, pss_one (ps_ret (pe_join pe_str (pe_kn Pr hr (by omega) (pa_cons (pe_fld (pv 0) rfl) (pa_cons (pe_fld (pv 0) rfl) pa_nil))))), ?_⟩
    refine ⟨⟨_, rfl⟩, .ref x, rfl, x, C, dx, _, _, rfl, ex, T.cl, T.nT, look_tops _ _, .ref x, rfl, x, C, dx, _, _, rfl, ex, T.cl, T.nR, look_rules _ _, t, R, tops, rs, rfl, et, eR, pl, l12, l40, hp, fun H1 D s1 eD => ?_⟩
    exact ⟨_, D, rowsT tops rs, rfl, rfl, .inl (.inl (.inl eD)), Nat.le_trans (len_rows l12 pl l40 hp) (by decide), q H1 s1⟩
end
end K70

set_option Elab.async false
set_option linter.all false
set_option maxRecDepth 100000
namespace K70
open PySem PySem.Spec PyProof.Rows L2 NB

/-! ### a plan read -/
theorem spl_len (S : List Nat) : ∀ (l : List Nat) (k : Nat) (acc p : List Nat), p ∈ TL.spl S k acc l → p.length ≤ acc.length + l.length
  | [], k, acc, p, h => by
    rw [TL.spl_nil] at h
    rw [List.mem_singleton.mp h]
    exact Nat.le_add_right _ _
  | c :: r, 0, acc, p, h => by
    cases hp : TL.pre S (c :: r) with
    | true =>
      rw [TL.spl_hit hp] at h
      rcases List.mem_cons.mp h with rfl | h
      · exact Nat.le_add_right _ _
      · have := spl_len S r _ _ p h
        simp only [List.length_nil, List.length_cons] at this ⊢
        omega
    | false =>
      rw [TL.spl_miss hp] at h
      have := spl_len S r _ _ p h
      simp only [List.length_append, List.length_nil, List.length_cons] at this ⊢
      omega
  | c :: r, k + 1, acc, p, h => by
    have := spl_len S r k acc p h
    simp only [List.length_cons]
    omega
theorem spl_count (S : List Nat) : ∀ (l : List Nat) (k : Nat) (acc : List Nat), (TL.spl S k acc l).length ≤ l.length + 1
  | [], k, acc => by
    rw [TL.spl_nil]
    exact Nat.le_refl _
  | c :: r, 0, acc => by
    cases hp : TL.pre S (c :: r) with
    | true =>
      rw [TL.spl_hit hp]
      have := spl_count S r (S.length - 1) []
      simp only [List.length_cons]
      omega
    | false =>
      rw [TL.spl_miss hp]
      have := spl_count S r 0 (acc ++ [c])
      simp only [List.length_cons]
      omega
  | c :: r, k + 1, acc => by
    have : (TL.spl S (k + 1) acc (c :: r)).length ≤ r.length + 1 := spl_count S r k acc
    simp only [List.length_cons]
    omega
theorem split_le {z y p : Str} (hy : TL.tl y ≠ []) (hk : y.cps.all (· < 256) = true) (h : p ∈ Txt.split z y) : p.length ≤ z.length := by
  have e := TL.split_spl z y hy (TL.kind_ok hk)
  have := spl_len (TL.tl y) (TL.tl z) 0 [] (TL.tl p) (by rw [← e]; exact List.mem_map_of_mem h)
  rw [TL.len_tl, TL.len_tl]
  simpa using this
theorem split_count {z y : Str} (hy : TL.tl y ≠ []) (hk : y.cps.all (· < 256) = true) : (Txt.split z y).length ≤ z.length + 1 := by
  have e := congrArg List.length (TL.split_spl z y hy (TL.kind_ok hk))
  rw [List.length_map] at e
  rw [e, TL.len_tl]
  exact spl_count _ _ _ _
theorem par_len (S : List Nat) : ∀ (l acc a b : List Nat), TL.par S acc l = some (a, b) → b.length ≤ l.length
  | [], acc, a, b, h => by cases h
  | c :: r, acc, a, b, h => by
    cases hp : TL.pre S (c :: r) with
    | true =>
      rw [TL.par_hit hp] at h
      cases h
      rw [List.length_drop]
      omega
    | false =>
      rw [TL.par_miss hp] at h
      have := par_len S r _ a b h
      simp only [List.length_cons]
      omega
theorem part_le (z : Str) : (Txt.partition z " ").2.2.length ≤ z.length := by
  rw [TL.partition_par z " " (by rw [tl_sp]; simp)]
  cases h : TL.par (TL.tl (" " : Str)) [] (TL.tl z) with
  | none => exact Nat.zero_le _
  | some p =>
    obtain ⟨a, b⟩ := p
    have := par_len _ _ _ _ _ h
    rw [TL.len_tl, TL.len_tl]
    exact this
theorem dstr {a b : Str} : decide (V.str a = V.str b) = decide (a = b) := decide_eq_decide.mpr ⟨fun h => by injection h, congrArg _⟩
theorem ne_sp : TL.tl (" " : Str) ≠ [] := by rw [tl_sp]; simp
theorem ne_sl : TL.tl (" / " : Str) ≠ [] := by rw [tl_sl]; simp
theorem ne_nl : TL.tl ("\n" : Str) ≠ [] := by rw [tl_nl]; simp

def areNumsB (z : Str) : Bool := (Txt.split z " ").all isNumB
def isWordB (z : Str) : Bool := inV (.str z) [.str "from", .str "to"]
def isSideB (z : Str) : Bool := decide ((Txt.split z " ").length = 3) && (isNumB ((Txt.split z " ").getD 0 Str.empty) && (isWordB ((Txt.split z " ").getD 1 Str.empty) && isNumB ((Txt.split z " ").getD 2 Str.empty)))
def isRuleB (z : Str) : Bool := decide ((Txt.split z " / ").length = 2) && (Txt.split z " / ").all isSideB
def isRowB (i : Int) (z : Str) : Bool := if i = 0 then decide ((Txt.partition z " ").1 = "things") && areNumsB (Txt.partition z " ").2.2 else decide ((Txt.partition z " ").1 = "rule") && isRuleB (Txt.partition z " ").2.2
theorem nums_ok {xs : List Int} (ne : xs ≠ []) (h : Pl xs) : areNumsB (standT xs) = true := by
  unfold areNumsB
  rw [split_stand ne h, List.all_eq_true]
  intro z hz
  obtain ⟨x, hx, rfl⟩ := List.mem_map.mp hz
  exact num_ok (h x hx).1 (h x hx).2
theorem side_okT {s : Sd} (h : SdP s) : isSideB (sideT s) = true := by
  unfold isSideB
  rw [split_side h]
  show (decide (3 = 3) && (isNumB (toS s.1) && (isWordB (word s.2.1) && isNumB (toS s.2.2)))) = true
  rw [num_ok h.thing.1 h.thing.2, num_ok h.2.1 h.2.2, show isWordB (word s.2.1) = true from word_in _]
  rfl
theorem rule_okT {q : Rl} (h : RlP q) : isRuleB (ruleT q) = true := by
  unfold isRuleB
  rw [split_rule h]
  show (decide (2 = 2) && (isSideB (sideT q.1) && (isSideB (sideT q.2) && true))) = true
  rw [side_okT h.1, side_okT h.2]
  rfl
theorem row0_ok {xs : List Int} (ne : xs ≠ []) (h : Pl xs) : isRowB 0 (topsT xs) = true := by
  unfold isRowB
  rw [if_pos rfl, part_tops]
  show (decide (("things" : Str) = "things") && areNumsB (standT xs)) = true
  rw [nums_ok ne h, decide_eq_true rfl]
  rfl
theorem row_ok {i : Int} (hi : i ≠ 0) {q : Rl} (h : RlP q) : isRowB i (rowT q) = true := by
  unfold isRowB
  rw [if_neg hi, part_row]
  show (decide (("rule" : Str) = "rule") && isRuleB (ruleT q)) = true
  rw [rule_okT h, decide_eq_true rfl]
  rfl

def spIsNum : Sp := fun vs H Q _ => ∃ z : Str, vs = [.str z] ∧ z.length ≤ 900 ∧ Q (.bl (isNumB z)) H
def spTxIs (g : Str → Bool) : Sp := fun vs H Q _ => ∃ z : Str, vs = [.str z] ∧ z.length ≤ 900 ∧ ∀ H', Same H H' → Q (.bl (g z)) H'
def spRowIs : Sp := fun vs H Q _ => ∃ (i : Int) (z : Str), vs = [.int i, .str z] ∧ z.length ≤ 900 ∧ ∀ H', Same H H' → Q (.bl (isRowB i z)) H'
section
variable {P : Program} {w : World} {K : PySem.W.Frag} {mg : Str → Option Value} {base : Heap}
abbrev a_is_number : Stmt := topS 39
abbrev n_is_number : List Str := ["word"]
theorem sc_is_number : FnScope n_is_number ["word"] (defScope a_is_number) := ⟨rfl, rfl, rfl, by decide +kernel, rfl, by decide +kernel, by decide +kernel⟩
set_option maxHeartbeats 8000000 in
theorem ok_is_number {f  : Addr} {fd  : FuncData} {k : Nat} {t7 : Tok} (F : Fun K "is_number" "is_number" a_is_number f fd)  (gv7 : mg "MOST_FIGURES" = some (.int 30 t7)) (m_len : mg "len" = none) : FnOk P w K mg base CX0 (k + 1) f fd ["word"] spIsNum := by
  refine F.ok sc_is_number (fun vs H Q E h => ?_) (fun cdv A outer s H vs Q E hr h => ?_)
  · obtain ⟨z, rfl, _⟩ := h
    rfl
  · obtain ⟨z, rfl, lz, q⟩ := h
    refine ⟨_, (pss_cons (ps_if (PW.pt (pw_or (pt_not (pt_val (pe_m0 PySem.F.slot_str_isascii PySem.F.type_str_isascii mt_isascii (pv 0)))) (pw_or (pt_not (pt_val (pe_m0 PySem.F.slot_str_isdigit PySem.F.type_str_isdigit mt_isdigit (pv 0)))) (pw_or1 (pt_cmpR op_gt (pe_callB call_len_str (by rfl) m_len (by decide +kernel) (pa_cons (pv 0) pa_nil)) (pe_glob (v := .int 30) rfl gv7 ⟨_, rfl⟩) (nomark _)))))) (pss_one (ps_ret pe_bl)) pss_nil)
      (pss_one (ps_ret (pe_or (pe_cmpR op_eq (pv 0) pe_str (nomark _)) (pe_one (pe_not (pe_m1 PySem.F.slot_str_startswith PySem.F.type_str_startswith mt_startswith (pv 0) pe_str))))))), ?_⟩
    have hl : z.length ≤ sizeLine := fits (by omega)
    unfold isNumB at q
    refine ⟨_, rfl, ⟨_, rfl⟩, z, rfl, rfl, trivial, Txt.isascii z, rfl, ?_⟩
    cases h1 : Txt.isascii z with
    | false =>
      rw [h1] at q
      exact iteT (iteT q)
    | true =>
    rw [h1] at q
    refine iteF ⟨_, rfl, ⟨_, rfl⟩, z, rfl, rfl, trivial, Txt.isdigit z, rfl, ?_⟩
    cases h2 : Txt.isdigit z with
    | false =>
      rw [h2] at q
      exact iteT (iteT q)
    | true =>
    rw [h2] at q
    refine iteF ⟨_, rfl, z, rfl, hl, _, 30, rfl, rfl, decide (30 < z.length), ?_, ?_⟩
    · exact congrArg V.bl (decide_eq_decide.mpr ⟨fun h => by omega, fun h => by omega⟩)
    cases h3 : decide (30 < z.length) with
    | true =>
      rw [h3] at q
      exact iteT q
    | false =>
    rw [h3] at q
    refine iteF ⟨_, rfl, rfl, decide (z = "0"), congrArg V.bl dstr, ?_⟩
    cases h4 : decide (z = "0") with
    | true =>
      rw [h4] at q
      exact iteT q
    | false =>
      rw [h4] at q
      exact iteF ⟨_, rfl, ⟨_, rfl⟩, z, "0", rfl, rfl, _, rfl, q⟩
abbrev a_are_numbers : Stmt := topS 40
abbrev n_are_numbers : List Str := ["text", "word"]
theorem sc_are_numbers : FnScope n_are_numbers ["text"] (defScope a_are_numbers) := ⟨rfl, rfl, rfl, by decide +kernel, rfl, by decide +kernel, by decide +kernel⟩
set_option maxHeartbeats 8000000 in
theorem ok_are_numbers {f fNu : Addr} {fd fdNu : FuncData} {k : Nat}  (F : Fun K "are_numbers" "are_numbers" a_are_numbers f fd) (Nu : Kn P w K mg base 1 "is_number" ["word"] spIsNum fNu fdNu)  (m_all : mg "all" = none) : FnOk P w K mg base CX0 (k + 2) f fd ["text"] (spTxIs areNumsB) := by
  refine F.ok sc_are_numbers (fun vs H Q E h => ?_) (fun cdv A outer s H vs Q E hr h => ?_)
  · obtain ⟨z, rfl, _⟩ := h
    rfl
  · obtain ⟨z, rfl, lz, q⟩ := h
    refine ⟨_, (pss_one (ps_ret (pe_callB (cr_all rfl) (by rfl) m_all (by decide +kernel) (pa_cons (
        pe_lc (own := [("word", 1)]) (g := (gName 1)) (tt := tYes) (te := (tCall spIsNum [] E0 (tCons (tVar 1) tNil))) rfl sc_are_numbers.nd (pi_list (pe_split (pv 0) pe_str)) (blkOk_by (N := n_are_numbers) (sc := defScope a_are_numbers) (by decide +kernel))
          (fun _ _ _ _ _ => (pg_name (i := 1) sc_are_numbers.nd rfl (.inl rfl) (hf := .inr rfl))) (fun _ _ _ _ _ => pts_nil) (fun _ _ _ _ _ => (pe_kn Nu hr (by omega) (pa_cons (pv 1) pa_nil)))) pa_nil)))), ?_⟩
    have hc := split_count (z := z) ne_sp (by decide +kernel)
    refine ⟨_, rfl, ⟨_, rfl⟩, z, " ", rfl, rfl, by decide +kernel, fits (by omega), fun L nL => ⟨L, rfl, ⟨_, .inl (.inl upd_same)⟩, fun D nD => ?_⟩⟩
    have s1 := same_new (o := .lst ((Txt.split z " ").map V.str)) nL
    have eL : (upd H L (.lst ((Txt.split z " ").map V.str))) L = some (.lst ((Txt.split z " ").map V.str)) := upd_same
    generalize upd H L (.lst ((Txt.split z " ").map V.str)) = H1 at s1 eL nD ⊢
    refine lc_it (walk_list (xs := (Txt.split z " ").map V.str)) (fun i H' => Same H1 H' ∧ H' D = some (.lst ((((Txt.split z " ").take i).map isNumB).map V.bl))) ⟨same_new nD, upd_same⟩ (fun i H' _ p => .inl (.inl (p.1 _ _ eL))) (fun i v H2 H3 hi p y => ?_) (fun H' p => ?_)
    · obtain ⟨sm, eD⟩ := p
      obtain ⟨rfl, gv⟩ := y
      obtain ⟨x, ex, rfl⟩ := mapGet gv
      have hx := split_le ne_sp (by decide +kernel) (List.mem_of_getElem? ex)
      refine ⟨rfl, _, rfl, x, rfl, by omega, _, eD, by rw [List.length_map, List.length_map, List.length_take]; exact small1000 (Nat.le_trans (Nat.min_le_right _ _) (by omega)), same_over sm nD, ?_⟩
      rw [upd_same, all_take isNumB _ i x ex]
    · obtain ⟨sm, eD⟩ := p
      refine ⟨D, _, rfl, .inl (.inl eD), ?_⟩
      rw [List.take_of_length_le (by rw [List.length_map]; exact Nat.le_refl _), all_id]
      exact q H' (s1.trans sm)
abbrev a_is_side_text : Stmt := topS 41
abbrev n_is_side_text : List Str := ["text", "words"]
theorem sc_is_side_text : FnScope n_is_side_text ["text"] (defScope a_is_side_text) := ⟨rfl, rfl, rfl, by decide +kernel, rfl, by decide +kernel, by decide +kernel⟩
set_option maxHeartbeats 8000000 in
theorem ok_is_side_text {f fNu : Addr} {fd fdNu : FuncData} {k : Nat} {wa : Addr} (F : Fun K "is_side_text" "is_side_text" a_is_side_text f fd) (Nu : Kn P w K mg base 1 "is_number" ["word"] spIsNum fNu fdNu) (gv4 : mg "WORDS" = some (.ref wa)) (hW : ∀ H, SqT K H wa [.str "from", .str "to"]) (m_len : mg "len" = none) : FnOk P w K mg base CX0 (k + 2) f fd ["text"] (spTxIs isSideB) := by
  refine F.ok sc_is_side_text (fun vs H Q E h => ?_) (fun cdv A outer s H vs Q E hr h => ?_)
  · obtain ⟨z, rfl, _⟩ := h
    rfl
  · obtain ⟨z, rfl, lz, q⟩ := h
    refine ⟨_, (pss_cons (ps_set (i := 1) sc_is_side_text.nd rfl (.inl rfl) (pe_split (pv 0) pe_str))
      (pss_one (ps_ret (pe_and (pe_cmpR op_eq (pe_callB call_len_seq (by rfl) m_len (by decide +kernel) (pa_cons (pv 1) pa_nil)) pe_int (nomark _)) (pe_and (pe_kn Nu hr (by omega) (pa_cons (pe_ix ix_list (pv 1) pe_int (fun _ _ => rfl)) pa_nil)) (pe_and (pe_cmpR op_in_seq (pe_ix ix_list (pv 1) pe_int (fun _ _ => rfl)) (pe_glob (v := .ref wa) rfl gv4 rfl) (by rfl)) (pe_one (pe_kn Nu hr (by omega) (pa_cons (pe_ix ix_list (pv 1) pe_int (fun _ _ => rfl)) pa_nil))))))))), ?_⟩
    have hc := split_count (z := z) ne_sp (by decide +kernel)
    refine ⟨_, rfl, ⟨_, rfl⟩, z, " ", rfl, rfl, by decide +kernel, fits (by omega), fun L nL => ?_⟩
    have s1 := same_new (o := .lst ((Txt.split z " ").map V.str)) nL
    have eL : (upd H L (.lst ((Txt.split z " ").map V.str))) L = some (.lst ((Txt.split z " ").map V.str)) := upd_same
    generalize upd H L (.lst ((Txt.split z " ").map V.str)) = H1 at s1 eL ⊢
    have q' := q H1 s1
    unfold isSideB at q'
    have hle : ∀ p ∈ Txt.split z " ", p.length ≤ z.length := fun p hp => split_le ne_sp (by decide +kernel) hp
    generalize Txt.split z " " = ws at eL q' hle
    by_cases hl : ws.length = 3
    · match ws, hl with
      | [a, b, c], _ =>
      have q2 : Q (.bl (isNumB a && (isWordB b && isNumB c))) H1 := q'
      have ha := hle a (by simp)
      have hcc := hle c (by simp)
      refine ⟨.ref L, rfl, L, _, rfl, .inl (.inl (.inl eL)), rfl, true, rfl, iteT ?_⟩
      refine ⟨.ref L, rfl, L, _, 0, .str a, rfl, rfl, .inl (.inl eL), atI_nat (j := 0) rfl, a, rfl, by omega, _, rfl, ?_⟩
      cases h1 : isNumB a with
      | false =>
        rw [h1] at q2
        exact iteF q2
      | true =>
        rw [h1] at q2
        refine iteT ⟨.ref L, rfl, L, _, 1, .str b, rfl, rfl, .inl (.inl eL), atI_nat (j := 1) rfl, wa, _, rfl, .inr (hW H1), rfl, by decide +kernel, isWordB b, rfl, ?_⟩
        cases h2 : isWordB b with
        | false =>
          rw [h2] at q2
          exact iteF q2
        | true =>
          rw [h2] at q2
          exact iteT ⟨.ref L, rfl, L, _, 2, .str c, rfl, rfl, .inl (.inl eL), atI_nat (j := 2) rfl, c, rfl, by omega, q2⟩
    · rw [decide_eq_false hl, Bool.false_and] at q'
      refine ⟨.ref L, rfl, L, _, rfl, .inl (.inl (.inl eL)), rfl, false, ?_, iteF q'⟩
      rw [List.length_map]
      exact congrArg V.bl (decide_eq_false fun z => hl (by
        injection z with z
        omega))
abbrev a_is_rule_text : Stmt := topS 42
abbrev n_is_rule_text : List Str := ["text", "sides", "side"]
theorem sc_is_rule_text : FnScope n_is_rule_text ["text"] (defScope a_is_rule_text) := ⟨rfl, rfl, rfl, by decide +kernel, rfl, by decide +kernel, by decide +kernel⟩
set_option maxHeartbeats 8000000 in
theorem ok_is_rule_text {f fSd1 : Addr} {fd fdSd1 : FuncData} {k : Nat}  (F : Fun K "is_rule_text" "is_rule_text" a_is_rule_text f fd) (Sd1 : Kn P w K mg base 2 "is_side_text" ["text"] (spTxIs isSideB) fSd1 fdSd1)  (m_all : mg "all" = none) (m_len : mg "len" = none) : FnOk P w K mg base CX0 (k + 3) f fd ["text"] (spTxIs isRuleB) := by
  refine F.ok sc_is_rule_text (fun vs H Q E h => ?_) (fun cdv A outer s H vs Q E hr h => ?_)
  · obtain ⟨z, rfl, _⟩ := h
    rfl
  · obtain ⟨z, rfl, lz, q⟩ := h
    refine ⟨_, (pss_cons (ps_set (i := 1) sc_is_rule_text.nd rfl (.inl rfl) (pe_split (pv 0) pe_str))
      (pss_one (ps_ret (pe_and (pe_cmpR op_eq (pe_callB call_len_seq (by rfl) m_len (by decide +kernel) (pa_cons (pv 1) pa_nil)) pe_int (nomark _)) (pe_one (pe_callB (cr_all rfl) (by rfl) m_all (by decide +kernel) (pa_cons (
        pe_lc (own := [("side", 2)]) (g := (gName 2)) (tt := tYes) (te := (tCall (spTxIs isSideB) [] E0 (tCons (tVar 2) tNil))) rfl sc_is_rule_text.nd (pi_list (pv 1)) (blkOk_by (N := n_is_rule_text) (sc := defScope a_is_rule_text) (by decide +kernel))
          (fun _ _ _ _ _ => (pg_name (i := 2) sc_is_rule_text.nd rfl (.inl rfl) (hf := .inr rfl))) (fun _ _ _ _ _ => pts_nil) (fun _ _ _ _ _ => (pe_kn Sd1 hr (by omega) (pa_cons (pv 2) pa_nil)))) pa_nil))))))), ?_⟩
    have hc := split_count (z := z) ne_sl (by decide +kernel)
    refine ⟨_, rfl, ⟨_, rfl⟩, z, " / ", rfl, rfl, by decide +kernel, fits (by omega), fun L nL => ?_⟩
    have s1 := same_new (o := .lst ((Txt.split z " / ").map V.str)) nL
    have eL : (upd H L (.lst ((Txt.split z " / ").map V.str))) L = some (.lst ((Txt.split z " / ").map V.str)) := upd_same
    generalize upd H L (.lst ((Txt.split z " / ").map V.str)) = H1 at s1 eL ⊢
    have hle : ∀ p ∈ Txt.split z " / ", p.length ≤ z.length := fun p hp => split_le ne_sl (by decide +kernel) hp
    unfold isRuleB at q
    generalize Txt.split z " / " = ws at eL q hle hc
    by_cases hl : ws.length = 2
    · rw [decide_eq_true hl, Bool.true_and] at q
      refine ⟨.ref L, rfl, L, _, rfl, .inl (.inl (.inl eL)), rfl, true, ?_, iteT ?_⟩
      · rw [List.length_map, hl]
        rfl
      refine ⟨.ref L, rfl, L, rfl, ⟨_, .inl (.inl eL)⟩, fun D nD => lc_it (walk_list (xs := ws.map V.str)) (fun i H' => Same H1 H' ∧ H' D = some (.lst (((ws.take i).map isSideB).map V.bl))) ⟨same_new nD, upd_same⟩ (fun i H' _ p => .inl (.inl (p.1 _ _ eL))) (fun i v H2 H3 hi p y => ?_) (fun H' p => ?_)⟩
      · obtain ⟨sm, eD⟩ := p
        obtain ⟨rfl, gv⟩ := y
        obtain ⟨x, ex, rfl⟩ := mapGet gv
        have hx := hle x (List.mem_of_getElem? ex)
        refine ⟨rfl, _, rfl, x, rfl, by omega, fun H4 s4 => ⟨_, s4 _ _ eD, by rw [List.length_map, List.length_map, List.length_take]; exact small1000 (Nat.le_trans (Nat.min_le_right _ _) (by omega)), same_over (sm.trans s4) nD, ?_⟩⟩
        rw [upd_same, all_take isSideB _ i x ex]
      · obtain ⟨sm, eD⟩ := p
        refine ⟨D, _, rfl, .inl (.inl eD), ?_⟩
        rw [List.take_of_length_le (by rw [List.length_map]; exact Nat.le_refl _), all_id]
        exact q H' (s1.trans sm)
    · rw [decide_eq_false hl, Bool.false_and] at q
      refine ⟨.ref L, rfl, L, _, rfl, .inl (.inl (.inl eL)), rfl, false, ?_, iteF (q H1 s1)⟩
      rw [List.length_map]
      exact congrArg V.bl (decide_eq_false fun z => hl (by
        injection z with z
        omega))
end
end K70

set_option Elab.async false
set_option linter.all false
set_option maxRecDepth 100000
namespace K70
open PySem PySem.Spec PyProof.Rows L2 NB

/-! ### the numbers, sides, rules of right texts -/
theorem SqL.lst0 {K : PySem.W.Frag} {H : Hp} {p : Addr} {xs : List V} (h : H p = some (.lst xs)) : SqL K H p xs := .inl (.inl h)
def spNumsIn : Sp := fun vs H Q _ => ∃ (z : Str) (xs : List Int), vs = [.str z] ∧ z = standT xs ∧ xs ≠ [] ∧ Pl xs ∧ xs.length ≤ 12 ∧ ∀ H' p, Same H H' → H' p = some (.tup (xs.map V.int)) → Q (.ref p) H'
def spSideIn : Sp := fun vs H Q _ => ∃ (z : Str) (sd : Sd), vs = [.str z] ∧ z = sideT sd ∧ SdP sd ∧ ∀ H' p, Same H H' → SideAt H' p sd → Q (.ref p) H'
def spRuleIn : Sp := fun vs H Q _ => ∃ (z : Str) (rl : Rl), vs = [.str z] ∧ z = ruleT rl ∧ RlP rl ∧ ∀ H' p, Same H H' → RuleAt H' p rl → Q (.ref p) H'
theorem stand_len {xs : List Int} (l12 : xs.length ≤ 12) (pl : Pl xs) : (standT xs).length ≤ 372 := Nat.le_trans (len_join " " (xs.map toS)) (len_stand l12 pl)
section
variable {P : Program} {w : World} {K : PySem.W.Frag} {mg : Str → Option Value} {base : Heap}
abbrev a_numbers_in : Stmt := topS 44
abbrev n_numbers_in : List Str := ["text", "word"]
theorem sc_numbers_in : FnScope n_numbers_in ["text"] (defScope a_numbers_in) := ⟨rfl, rfl, rfl, by decide +kernel, rfl, by decide +kernel, by decide +kernel⟩
set_option maxHeartbeats 8000000 in
theorem ok_numbers_in {f  : Addr} {fd  : FuncData} {k : Nat}  (F : Fun K "numbers_in" "numbers_in" a_numbers_in f fd)   (m_int : mg "int" = none) (m_tuple : mg "tuple" = none) : FnOk P w K mg base CX0 (k + 1) f fd ["text"] spNumsIn := by
  refine F.ok sc_numbers_in (fun vs H Q E h => ?_) (fun cdv A outer s H vs Q E hr h => ?_)
  · obtain ⟨z, xs, rfl, _⟩ := h
    rfl
  · obtain ⟨z, xs, rfl, ez, ne, pl, l12, q⟩ := h
    refine ⟨_, (pss_one (ps_ret (pe_callTy call_tuple_of (by rfl) m_tuple (by decide +kernel) (pa_cons (
        pe_lc (own := [("word", 1)]) (g := (gName 1)) (tt := tYes) (te := (tTxInt (tCons (tVar 1) tNil))) rfl sc_numbers_in.nd (pi_list (pe_split (pv 0) pe_str)) (blkOk_by (N := n_numbers_in) (sc := defScope a_numbers_in) (by decide +kernel))
          (fun _ _ _ _ _ => (pg_name (i := 1) sc_numbers_in.nd rfl (.inl rfl) (hf := .inr rfl))) (fun _ _ _ _ _ => pts_nil) (fun _ _ _ _ _ => (pe_callTy call_int_str (by rfl) m_int (by decide +kernel) (pa_cons (pv 1) pa_nil)))) pa_nil)))), ?_⟩
    subst ez
    have sl := stand_len l12 pl
    refine ⟨_, rfl, ⟨_, rfl⟩, standT xs, " ", rfl, rfl, by decide +kernel, fits (by omega), fun L nL => ?_⟩
    rw [split_stand ne pl]
    have s1 := same_new (o := .lst ((xs.map toS).map V.str)) nL
    have eL : (upd H L (.lst ((xs.map toS).map V.str))) L = some (.lst ((xs.map toS).map V.str)) := upd_same
    generalize upd H L (.lst ((xs.map toS).map V.str)) = H1 at s1 eL ⊢
    refine ⟨L, rfl, ⟨_, .inl (.inl eL)⟩, fun D nD => lc_it (walk_list (xs := (xs.map toS).map V.str)) (fun i H' => Same H1 H' ∧ H' D = some (.lst ((xs.take i).map V.int))) ⟨same_new nD, upd_same⟩ (fun i H' _ p => .inl (.inl (p.1 _ _ eL))) (fun i v H2 H3 hi p y => ?_) (fun H' p => ?_)⟩
    · obtain ⟨sm, eD⟩ := p
      obtain ⟨rfl, gv⟩ := y
      obtain ⟨x, ex, rfl⟩ := mapGet gv
      obtain ⟨n, en, rfl⟩ := mapGet ex
      have hn := pl n (List.mem_of_getElem? en)
      refine ⟨rfl, _, rfl, toS n, n, rfl, int_toS hn.1 hn.2, Nat.le_trans (toS_len hn.1 hn.2) (by decide), _, eD, by rw [List.length_map, List.length_take]; exact small1000 (Nat.le_trans (Nat.min_le_right _ _) (by omega)), same_over sm nD, ?_⟩
      rw [upd_same, List.take_add_one, en, List.map_append]
      rfl
    · obtain ⟨sm, eD⟩ := p
      rw [List.take_of_length_le (by rw [List.length_map, List.length_map]; exact Nat.le_refl _)] at eD
      exact ⟨D, _, rfl, .inl ⟨.inl (.inl eD), fun l nl => q _ l ((s1.trans sm).trans (same_new nl)) upd_same⟩⟩
abbrev a_side_in : Stmt := topS 45
abbrev n_side_in : List Str := ["text", "thing", "word", "place"]
theorem sc_side_in : FnScope n_side_in ["text"] (defScope a_side_in) := ⟨rfl, rfl, rfl, by decide +kernel, rfl, by decide +kernel, by decide +kernel⟩
set_option maxHeartbeats 8000000 in
theorem ok_side_in {f  : Addr} {fd  : FuncData} {k : Nat}  (F : Fun K "side_in" "side_in" a_side_in f fd)   (m_int : mg "int" = none) : FnOk P w K mg base CX0 (k + 1) f fd ["text"] spSideIn := by
  refine F.ok sc_side_in (fun vs H Q E h => ?_) (fun cdv A outer s H vs Q E hr h => ?_)
  · obtain ⟨z, sd, rfl, _⟩ := h
    rfl
  · obtain ⟨z, sd, rfl, ez, hs, q⟩ := h
    refine ⟨_, (pss_cons (ps_asg (pe_split (pv 0) pe_str) (pg_lst rfl (pgs_cons (pg_name (i := 1) sc_side_in.nd rfl (.inl rfl)) (pgs_cons (pg_name (i := 2) sc_side_in.nd rfl (.inl rfl)) (pgs_cons (pg_name (i := 3) sc_side_in.nd rfl (.inl rfl)) pgs_nil)))))
      (pss_one (ps_ret (pe_tup (pa_cons (pe_callTy call_int_str (by rfl) m_int (by decide +kernel) (pa_cons (pv 1) pa_nil)) (pa_cons (pv 2) (pa_cons (pe_callTy call_int_str (by rfl) m_int (by decide +kernel) (pa_cons (pv 3) pa_nil)) pa_nil))))))), ?_⟩
    subst ez
    have sl := len_side hs
    refine ⟨_, rfl, ⟨_, rfl⟩, sideT sd, " ", rfl, rfl, by decide +kernel, fits (by omega), fun L nL => ?_⟩
    rw [split_side hs]
    have s1 := same_new (o := .lst ([toS sd.1, word sd.2.1, toS sd.2.2].map V.str)) nL
    have eL : (upd H L (.lst ([toS sd.1, word sd.2.1, toS sd.2.2].map V.str))) L = some (.lst ([toS sd.1, word sd.2.1, toS sd.2.2].map V.str)) := upd_same
    generalize upd H L (.lst ([toS sd.1, word sd.2.1, toS sd.2.2].map V.str)) = H1 at s1 eL ⊢
    refine ⟨L, _, rfl, .inl (.inl eL), rfl, _, _, rfl, _, _, rfl, _, _, rfl, rfl, ?_⟩
    refine ⟨_, rfl, _, _, rfl, int_toS hs.thing.1 hs.thing.2, Nat.le_trans (toS_len hs.thing.1 hs.thing.2) (by decide), _, rfl, _, rfl, _, _, rfl, int_toS hs.2.1 hs.2.2, Nat.le_trans (toS_len hs.2.1 hs.2.2) (by decide), (show 3 ≤ sizeLine by decide), fun p np => q _ p (s1.trans (same_new np)) upd_same⟩
abbrev a_rule_in : Stmt := topS 46
abbrev n_rule_in : List Str := ["text", "side"]
theorem sc_rule_in : FnScope n_rule_in ["text"] (defScope a_rule_in) := ⟨rfl, rfl, rfl, by decide +kernel, rfl, by decide +kernel, by decide +kernel⟩
set_option maxHeartbeats 8000000 in
theorem ok_rule_in {f fSi : Addr} {fd fdSi : FuncData} {k : Nat}  (F : Fun K "rule_in" "rule_in" a_rule_in f fd) (Si : Kn P w K mg base 1 "side_in" ["text"] spSideIn fSi fdSi)  (m_tuple : mg "tuple" = none) : FnOk P w K mg base CX0 (k + 2) f fd ["text"] spRuleIn := by
  refine F.ok sc_rule_in (fun vs H Q E h => ?_) (fun cdv A outer s H vs Q E hr h => ?_)
  · obtain ⟨z, rl, rfl, _⟩ := h
    rfl
  · obtain ⟨z, rl, rfl, ez, hp, q⟩ := h
    refine ⟨_, (pss_one (ps_ret (pe_callTy call_tuple_of (by rfl) m_tuple (by decide +kernel) (pa_cons (
        pe_lc (own := [("side", 1)]) (g := (gName 1)) (tt := tYes) (te := (tCall spSideIn [] E0 (tCons (tVar 1) tNil))) rfl sc_rule_in.nd (pi_list (pe_split (pv 0) pe_str)) (blkOk_by (N := n_rule_in) (sc := defScope a_rule_in) (by decide +kernel))
          (fun _ _ _ _ _ => (pg_name (i := 1) sc_rule_in.nd rfl (.inl rfl) (hf := .inr rfl))) (fun _ _ _ _ _ => pts_nil) (fun _ _ _ _ _ => (pe_kn Si hr (by omega) (pa_cons (pv 1) pa_nil)))) pa_nil)))), ?_⟩
    subst ez
    have sl := len_rule hp
    refine ⟨_, rfl, ⟨_, rfl⟩, ruleT rl, " / ", rfl, rfl, by decide +kernel, fits (by omega), fun L nL => ?_⟩
    rw [split_rule hp]
    have s1 := same_new (o := .lst ([sideT rl.1, sideT rl.2].map V.str)) nL
    have eL : (upd H L (.lst ([sideT rl.1, sideT rl.2].map V.str))) L = some (.lst ([sideT rl.1, sideT rl.2].map V.str)) := upd_same
    generalize upd H L (.lst ([sideT rl.1, sideT rl.2].map V.str)) = H1 at s1 eL ⊢
    refine ⟨L, rfl, ⟨_, .inl (.inl eL)⟩, fun D nD => lc_it (walk_list (xs := [sideT rl.1, sideT rl.2].map V.str)) (fun i H' => Same H1 H' ∧ ∃ as : List Addr, H' D = some (.lst (as.map V.ref)) ∧ as.length = i ∧ ∀ (j : Nat) (a : Addr) (sd : Sd), as[j]? = some a → [rl.1, rl.2][j]? = some sd → SideAt H' a sd) ⟨same_new nD, [], upd_same, rfl, fun j a sd h => by cases h⟩ (fun i H' _ p => .inl (.inl (p.1 _ _ eL))) (fun i v H2 H3 hi p y => ?_) (fun H' p => ?_)⟩
    · obtain ⟨sm, as, eD, al, ha⟩ := p
      obtain ⟨rfl, gv⟩ := y
      have hi2 : i < 2 := hi
      obtain ⟨sd, rfl, hs, ey⟩ : ∃ sd : Sd, v = .str (sideT sd) ∧ SdP sd ∧ [rl.1, rl.2][i]? = some sd := by
        match i, hi2, gv with
        | 0, _, gv => exact ⟨rl.1, (Option.some.inj gv).symm, hp.1, rfl⟩
        | 1, _, gv => exact ⟨rl.2, (Option.some.inj gv).symm, hp.2, rfl⟩
      refine ⟨rfl, _, rfl, _, sd, rfl, rfl, hs, fun H4 a s4 ea => ⟨_, s4 _ _ eD, by rw [List.length_map, al]; exact small1000 (by omega), same_over (sm.trans s4) nD, as ++ [a], by rw [upd_same, List.map_append]; rfl, by rw [List.length_append, al]; rfl, fun j b sd' h1 h2 => ?_⟩⟩
      have ne : ∀ (x : Addr) (u : Sd), SideAt H4 x u → SideAt (upd H4 D (.lst (as.map V.ref ++ [V.ref a]))) x u := fun x u hx => (upd_ne (fun z => by
        subst z
        have e1 := s4 _ _ eD
        rw [show H4 x = _ from hx] at e1
        cases e1)).trans hx
      by_cases hj : j < as.length
      · rw [List.getElem?_append_left hj] at h1
        exact ne _ _ ((ha j b sd' h1 h2).keep (.same s4))
      · rw [List.getElem?_append_right (by omega)] at h1
        have hj0 : j = i := by
          have := (List.getElem?_eq_some_iff.mp h1).1
          simp at this
          omega
        subst hj0
        rw [show j - as.length = 0 by omega] at h1
        rw [ey] at h2
        cases h1
        cases h2
        exact ne _ _ ea
    · obtain ⟨sm, as, eD, al, ha⟩ := p
      match as, al with
      | [p1, p2], _ =>
      refine ⟨D, _, rfl, .inl ⟨.inl (.inl eD), fun l nl => q _ l ((s1.trans sm).trans (same_new nl)) ⟨p1, p2, upd_same, ?_, ?_⟩⟩⟩
      · exact (ha 0 p1 rl.1 rfl rfl).keep (.same (same_new nl))
      · exact (ha 1 p2 rl.2 rfl rfl).keep (.same (same_new nl))
end
end K70

set_option Elab.async false
set_option linter.all false
set_option maxRecDepth 100000
namespace K70
open PySem PySem.Spec PyProof.Rows L2 NB

/-! ### rules in lists, as data -/
def dS (s : Sd) : PyData := .tuple [.int s.1, .str (word s.2.1), .int s.2.2]
def dR (q : Rl) : PyData := .tuple [dS q.1, dS q.2]
theorem dp_side {K : PySem.W.Frag} {H : Hp} {p : Addr} {s : Sd} (h : SideAt H p s) : Dp K H (.ref p) (dS s) := .tup (.inl (.inl h)) (.cons (.int _) (.cons (.str _) (.cons (.int _) .nil)))
theorem dp_rule {K : PySem.W.Frag} {H : Hp} {p : Addr} {q : Rl} (h : RuleAt H p q) : Dp K H (.ref p) (dR q) := by
  obtain ⟨p1, p2, e, h1, h2⟩ := h
  exact .tup (.inl (.inl e)) (.cons (dp_side h1) (.cons (dp_side h2) .nil))
theorem layR : ∀ rs : List Rl, PyData.canLayAll0 (rs.map dR) = true
  | [] => rfl
  | q :: rs => by
    have w : ∀ b : Bool, PyData.strOk (word b) = true := fun b => by cases b <;> decide +kernel
    simp only [List.map_cons, dR, dS, PyData.canLayAll0, PyData.canLay0, w, Bool.true_and, Bool.and_true]
    exact layR rs
theorem depR : ∀ rs : List Rl, PyData.depthAll (rs.map dR) ≤ 3
  | [] => by simp [PyData.depthAll]
  | q :: rs => by
    have := depR rs
    simp only [List.map_cons, dR, dS, PyData.depthAll, PyData.depth] at this ⊢
    omega
theorem shapedR (rs : List Rl) : SeqAt.shaped (.list (rs.map dR)) = true := by
  unfold SeqAt.shaped
  have := depR rs
  simp only [PyData.canLay0, layR, PyData.depth, Bool.true_and]
  exact decide_eq_true (by omega)
/-- rules in a list, with where they stand -/
def RlsL (H : Hp) (Z : List (Addr × Rl)) : Prop := ∀ z ∈ Z, RuleAt H z.1 z.2
abbrev rlR (Z : List (Addr × Rl)) : List V := Z.map fun z => V.ref z.1
theorem RlsL.keep {H H' : Hp} {Z : List (Addr × Rl)} (h : RlsL H Z) (k : Keep H H') : RlsL H' Z := fun z hz => (h z hz).keep k
theorem dp_rls {K : PySem.W.Frag} {H : Hp} : ∀ {Z : List (Addr × Rl)}, RlsL H Z → DpAll K H (rlR Z) ((Z.map (·.2)).map dR)
  | [], _ => .nil
  | z :: Z, h => .cons (dp_rule (h z List.mem_cons_self)) (dp_rls fun y hy => h y (List.mem_cons_of_mem _ hy))
theorem RulesAt.rls {H : Hp} {R : Addr} {rs : List Rl} (h : RulesAt H R rs) : ∃ Z : List (Addr × Rl), H R = some (.tup (rlR Z)) ∧ Z.map (·.2) = rs ∧ RlsL H Z := by
  obtain ⟨as, e, l, f⟩ := h
  refine ⟨as.zip rs, ?_, List.map_snd_zip (by omega), fun z hz => ?_⟩
  · rw [e]
    have : rlR (as.zip rs) = ((as.zip rs).map Prod.fst).map V.ref := by
      rw [List.map_map]
      rfl
    rw [this, List.map_fst_zip (by omega)]
  · obtain ⟨k, hk, ek⟩ := List.getElem_of_mem hz
    have hk' : k < as.length ∧ k < rs.length := by
      rw [List.length_zip] at hk
      omega
    refine f k z.1 z.2 ?_ ?_
    · rw [← ek, List.getElem_zip, List.getElem?_eq_getElem hk'.1]
    · rw [← ek, List.getElem_zip, List.getElem?_eq_getElem hk'.2]
theorem RulesAt.of_rls {H : Hp} {R : Addr} {Z : List (Addr × Rl)} (e : H R = some (.tup (rlR Z))) (h : RlsL H Z) : RulesAt H R (Z.map (·.2)) := by
  refine ⟨Z.map (·.1), by rw [e, List.map_map]; rfl, by rw [List.length_map, List.length_map], fun i r q h1 h2 => ?_⟩
  rw [List.getElem?_map] at h1 h2
  cases z : Z[i]? with
  | none =>
    rw [z] at h1
    cases h1
  | some y =>
    rw [z] at h1 h2
    cases h1
    cases h2
    exact h y (List.mem_of_getElem? z)

/-! ### wiped slots -/
theorem wipe_get (σ : L2.St) : ∀ (vs : List Nat) (j : Nat), (wipe σ vs)[j]? = if j ∈ vs then σ[j]?.map (fun _ => none) else σ[j]?
  | [], j => by rw [if_neg List.not_mem_nil]; rfl
  | v :: vs, j => by
    show ((wipe σ vs).set v none)[j]? = _
    rw [List.getElem?_set, wipe_get σ vs j, wipe_length]
    by_cases c : v = j
    · subst c
      rw [if_pos rfl, if_pos List.mem_cons_self]
      by_cases d : v < σ.length
      · rw [if_pos d, List.getElem?_eq_getElem d]
        rfl
      · rw [if_neg d, List.getElem?_eq_none (by omega)]
        rfl
    · rw [if_neg c]
      have : j ∈ v :: vs ↔ j ∈ vs := by rw [List.mem_cons]; exact ⟨fun h => h.elim (fun e => absurd e.symm c) id, .inr⟩
      by_cases d : j ∈ vs
      · rw [if_pos d, if_pos (this.mpr d)]
      · rw [if_neg d, if_neg (fun h => d (this.mp h))]
theorem wipe_any {σ τ : L2.St} {vs : List Nat} (l : τ.length = σ.length) (h : ∀ j, j ∉ vs → τ[j]? = σ[j]?) : wipe τ vs = wipe σ vs := by
  refine List.ext_getElem? fun j => ?_
  rw [wipe_get, wipe_get]
  by_cases d : j ∈ vs
  · rw [if_pos d, if_pos d]
    by_cases e : j < σ.length
    · rw [List.getElem?_eq_getElem e, List.getElem?_eq_getElem (by omega)]
      rfl
    · rw [List.getElem?_eq_none (by omega), List.getElem?_eq_none (by omega)]
  · rw [if_neg d, if_neg d, h j d]

/-! ### wants, ways in writing -/
def WntAt (H : Hp) (p : Addr) (ss : List Sd) : Prop := ∃ as : List Addr, H p = some (.tup (as.map V.ref)) ∧ as.length = ss.length ∧ ∀ (i : Nat) (a : Addr) (s : Sd), as[i]? = some a → ss[i]? = some s → SideAt H a s
theorem WntAt.keep {H H' : Hp} {p : Addr} {ss : List Sd} (h : WntAt H p ss) (k : Keep H H') : WntAt H' p ss := by
  obtain ⟨as, e, l, f⟩ := h
  exact ⟨as, k.tup e, l, fun i a s h1 h2 => (f i a s h1 h2).keep k⟩
/-- a plan, of which only its tops are asked -/
def TopsAt (C : Addr) (H : Hp) (x t : Addr) (tops : List Int) : Prop := ∃ dx R, H x = some (.ins C dx [("tops", .ref t), ("rules", .ref R)]) ∧ H t = some (.tup (tops.map V.int))
theorem TopsAt.keep {C : Addr} {H H' : Hp} {x t : Addr} {tops : List Int} (h : TopsAt C H x t tops) (k : Keep H H') : TopsAt C H' x t tops := by
  obtain ⟨dx, R, e, et⟩ := h
  exact ⟨dx, R, k _ _ (fun _ z => by cases z) e, k.tup et⟩
def wantT (ss : List Sd) : Str := if ss = [] then "-" else Txt.join ", " (ss.map sideT)
theorem tl_co : TL.tl (", " : Str) = [44, 32] := by decide +kernel
theorem ne_co : TL.tl (", " : Str) ≠ [] := by rw [tl_co]; simp
theorem split_want {ss : List Sd} (ne : ss ≠ []) (h : ∀ s ∈ ss, SdP s) : Txt.split (Txt.join ", " (ss.map sideT)) ", " = ss.map sideT :=
  TL.split_join tl_co (by decide +kernel) (by simpa using ne) fun p hp => by
    obtain ⟨s, hs, rfl⟩ := List.mem_map.mp hp
    exact side_free (h s hs) (by decide) (by decide)
theorem len_wants {ss : List Sd} (l : ss.length ≤ 24) (h : ∀ s ∈ ss, SdP s) : ((ss.map sideT).map (·.length)).sum + (ss.map sideT).length * (", " : Str).length ≤ 1700 := by
  have := sum_le (·.length) 66 (ss.map sideT) fun x hx => by
    obtain ⟨s, hs, rfl⟩ := List.mem_map.mp hx
    exact len_side (h s hs)
  have d : (", " : Str).length = 2 := by decide +kernel
  rw [List.length_map] at this ⊢
  rw [d]
  omega
/-- a text that begins with a figure is not '-' -/
theorem join_ne {y : Str} {x : Str} {xs : List Str} {c : Nat} {r : List Nat} (e : TL.tl x = c :: r) (hc : c ≠ 45) : Txt.join y (x :: xs) ≠ "-" := fun z => by
  have := congrArg TL.tl z
  rw [TL.join_eq, TL.tl_join, show TL.tl ("-" : Str) = [45] from by decide +kernel] at this
  cases xs with
  | nil =>
    have h2 : TL.tl x = [45] := this
    rw [e] at h2
    injection h2 with h2 _
    exact hc h2
  | cons q qs =>
    have h2 : TL.tl x ++ (TL.tl y ++ TL.joinL (TL.tl y) ((q :: qs).map TL.tl)) = [45] := this
    rw [e] at h2
    injection h2 with h2 _
    exact hc h2
theorem toS_head {i : Int} (h : 0 ≤ i) : ∃ c r, TL.tl (toS i) = c :: r ∧ 48 ≤ c ∧ c ≤ 57 := by
  obtain ⟨n, rfl⟩ := nat_of h
  rw [toS_nat]
  cases e : TL.numL n with
  | nil => exact absurd e (TL.numL_ne n)
  | cons c r =>
    have := digs (n := n) c (by rw [e]; exact List.mem_cons_self)
    exact ⟨c, r, rfl, this.1, this.2⟩
theorem side_head {s : Sd} (h : SdP s) : ∃ c r, TL.tl (sideT s) = c :: r ∧ 48 ≤ c ∧ c ≤ 57 := by
  obtain ⟨c, r, e, h1, h2⟩ := toS_head h.thing.1
  unfold sideT
  rw [TL.tl_append, TL.tl_append, TL.tl_append, TL.tl_append, e]
  exact ⟨c, _, rfl, h1, h2⟩
theorem want_ne {ss : List Sd} (ne : ss ≠ []) (h : ∀ s ∈ ss, SdP s) : Txt.join ", " (ss.map sideT) ≠ "-" := by
  cases ss with
  | nil => exact absurd rfl ne
  | cons s ss =>
    obtain ⟨c, r, e, h1, h2⟩ := side_head (h s List.mem_cons_self)
    exact join_ne (xs := ss.map sideT) e (by omega)
def isWantB (z : Str) : Bool := decide (z = "-") || (Txt.split z ", ").all isSideB
theorem want_ok {ss : List Sd} (h : ∀ s ∈ ss, SdP s) : isWantB (wantT ss) = true := by
  unfold isWantB wantT
  by_cases ne : ss = []
  · rw [if_pos ne]
    rfl
  · rw [if_neg ne, split_want ne h]
    rw [show (ss.map sideT).all isSideB = true from List.all_eq_true.mpr fun z hz => by
      obtain ⟨s, hs, rfl⟩ := List.mem_map.mp hz
      exact side_okT (h s hs), Bool.or_true]

/-! ### rows of a way -/
abbrev Rw := Nat × Int
def WayAt (H : Hp) (p : Addr) (rws : List Rw) : Prop := ∃ as : List Addr, H p = some (.tup (as.map V.ref)) ∧ as.length = rws.length ∧ ∀ (i : Nat) (a : Addr) (r : Rw), as[i]? = some a → rws[i]? = some r → H a = some (.tup [.int r.1, .int r.2])
theorem WayAt.keep {H H' : Hp} {p : Addr} {rws : List Rw} (h : WayAt H p rws) (k : Keep H H') : WayAt H' p rws := by
  obtain ⟨as, e, l, f⟩ := h
  exact ⟨as, k.tup e, l, fun i a s h1 h2 => k.tup (f i a s h1 h2)⟩
def RwP (r : Rw) : Prop := r.1 < 12 ∧ 0 ≤ r.2 ∧ r.2 < 10 ^ 30
theorem RwP.thing {r : Rw} (h : RwP r) : (0 : Int) ≤ (r.1 : Int) ∧ (r.1 : Int) < 10 ^ 30 := ⟨by omega, Int.lt_of_lt_of_le (show (r.1 : Int) < 12 by have := h.1; omega) (by decide)⟩
def rwT (r : Rw) : Str := toS r.1 ++ ":" ++ toS r.2
def wayT (rws : List Rw) : Str := if rws = [] then "-" else Txt.join " " (rws.map rwT)
theorem len_rw {r : Rw} (h : RwP r) : (rwT r).length ≤ 61 := by
  unfold rwT
  rw [len_app, len_app]
  have a := toS_len h.thing.1 h.thing.2
  have b := toS_len h.2.1 h.2.2
  have d : (":" : Str).length = 1 := by decide +kernel
  omega
theorem len_rws {rws : List Rw} (l : rws.length ≤ 30) (h : ∀ r ∈ rws, RwP r) : ((rws.map rwT).map (·.length)).sum + (rws.map rwT).length * (" " : Str).length ≤ 1900 := by
  have := sum_le (·.length) 61 (rws.map rwT) fun x hx => by
    obtain ⟨s, hs, rfl⟩ := List.mem_map.mp hx
    exact len_rw (h s hs)
  have d : (" " : Str).length = 1 := by decide +kernel
  rw [List.length_map] at this ⊢
  rw [d]
  omega
/-! ### as data -/
theorem depS : ∀ ss : List Sd, PyData.depthAll (ss.map dS) ≤ 1
  | [] => by simp [PyData.depthAll]
  | s :: ss => by
    have := depS ss
    simp only [List.map_cons, dS, PyData.depthAll, PyData.depth] at this ⊢
    omega
theorem layS : ∀ ss : List Sd, PyData.canLayAll0 (ss.map dS) = true
  | [] => rfl
  | s :: ss => by
    have w : PyData.strOk (word s.2.1) = true := by cases s.2.1 <;> decide +kernel
    simp only [List.map_cons, dS, PyData.canLayAll0, PyData.canLay0, w, Bool.true_and, Bool.and_true]
    exact layS ss
def dRw (r : Rw) : PyData := .tuple [.int r.1, .int r.2]
theorem depRw : ∀ ss : List Rw, PyData.depthAll (ss.map dRw) ≤ 1
  | [] => by simp [PyData.depthAll]
  | s :: ss => by
    have := depRw ss
    simp only [List.map_cons, dRw, PyData.depthAll, PyData.depth] at this ⊢
    omega
theorem layRw : ∀ ss : List Rw, PyData.canLayAll0 (ss.map dRw) = true
  | [] => rfl
  | s :: ss => by
    simp only [List.map_cons, dRw, PyData.canLayAll0, PyData.canLay0, Bool.true_and, Bool.and_true]
    exact layRw ss
theorem shaped_of {ds : List PyData} (l : PyData.canLayAll0 ds = true) (d : PyData.depthAll ds ≤ 1) : SeqAt.shaped (.tuple ds) = true := by
  unfold SeqAt.shaped
  simp only [PyData.canLay0, l, PyData.depth, Bool.true_and]
  exact decide_eq_true (by omega)
theorem eqv_nil (ds : List PyData) : PyData.eqv (.tuple ds) (.tuple []) = decide (ds = []) := by
  cases ds with
  | nil => rfl
  | cons a b => simp [PyData.eqv, PyData.eqvAll]
theorem dp_each {α : Type} {K : PySem.W.Frag} {H : Hp} {g : α → PyData} : ∀ {as : List Addr} {xs : List α}, as.length = xs.length → (∀ (i : Nat) (a : Addr) (x : α), as[i]? = some a → xs[i]? = some x → Dp K H (.ref a) (g x)) → DpAll K H (as.map V.ref) (xs.map g)
  | [], [], _, _ => .nil
  | [], _ :: _, l, _ => by cases l
  | _ :: _, [], l, _ => by cases l
  | a :: as, x :: xs, l, f => .cons (f 0 a x rfl rfl) (dp_each (by simpa using l) fun i b y h1 h2 => f (i + 1) b y h1 h2)
theorem dp_wnt {K : PySem.W.Frag} {H : Hp} {p : Addr} {ss : List Sd} (h : WntAt H p ss) : Dp K H (.ref p) (.tuple (ss.map dS)) := by
  obtain ⟨as, e, l, f⟩ := h
  exact .tup (.inl (.inl e)) (dp_each l fun i a s h1 h2 => dp_side (f i a s h1 h2))
theorem dp_way {K : PySem.W.Frag} {H : Hp} {p : Addr} {ss : List Rw} (h : WayAt H p ss) : Dp K H (.ref p) (.tuple (ss.map dRw)) := by
  obtain ⟨as, e, l, f⟩ := h
  exact .tup (.inl (.inl e)) (dp_each l fun i a s h1 h2 => .tup (.inl (.inl (f i a s h1 h2))) (.cons (.int _) (.cons (.int _) .nil)))
theorem wipe_two {σ : L2.St} {i j : Nat} {a b : Option V} {m n : Str} : wipe (((wipe σ ([(m, i), (n, j)].map (·.2))).set i a).set j b) ([(m, i), (n, j)].map (·.2)) = wipe σ ([(m, i), (n, j)].map (·.2)) := by
  refine wipe_any (by rw [List.length_set, List.length_set, wipe_length]) fun k hk => ?_
  have h1 : i ≠ k := fun e => hk (by simp [e])
  have h2 : j ≠ k := fun e => hk (by simp [e])
  rw [List.getElem?_set_ne h2, List.getElem?_set_ne h1, wipe_get, if_neg hk]
def spShWant : Sp := fun vs H Q _ => ∃ (p : Addr) (ss : List Sd), vs = [.ref p] ∧ WntAt H p ss ∧ (∀ s ∈ ss, SdP s) ∧ ss.length ≤ 24 ∧ ∀ H', Same H H' → Q (.str (wantT ss)) H'
def spShWay : Sp := fun vs H Q _ => ∃ (p : Addr) (rws : List Rw), vs = [.ref p] ∧ WayAt H p rws ∧ (∀ r ∈ rws, RwP r) ∧ rws.length ≤ 30 ∧ ∀ H', Same H H' → Q (.str (wayT rws)) H'
section
variable {P : Program} {w : World} {K : PySem.W.Frag} {mg : Str → Option Value} {base : Heap}
abbrev a_show_want : Stmt := topS 5
abbrev n_show_want : List Str := ["want", "side"]
theorem sc_show_want : FnScope n_show_want ["want"] (defScope a_show_want) := ⟨rfl, rfl, rfl, by decide +kernel, rfl, by decide +kernel, by decide +kernel⟩
set_option maxHeartbeats 8000000 in
theorem ok_show_want {f fSs : Addr} {fd fdSs : FuncData} {k : Nat} {t8 : Tok} (F : Fun K "show_want" "show_want" a_show_want f fd) (Ss : Kn P w K mg base 1 "show_side" ["side"] spShSide fSs fdSs) (gv8 : mg "NOTHING" = some (.str "-" t8))  : FnOk P w K mg base CX0 (k + 2) f fd ["want"] spShWant := by
  refine F.ok sc_show_want (fun vs H Q E h => ?_) (fun cdv A outer s H vs Q E hr h => ?_)
  · obtain ⟨p, ss, rfl, _⟩ := h
    rfl
  · obtain ⟨p, ss, rfl, hw, hs, l24, q⟩ := h
    refine ⟨_, (pss_one (ps_ret (pe_ifExp (pt_cmpR (op_neD hr.units) (pv 0) (pe_tup pa_nil) (nomark _)) (pe_join pe_str (
        pe_lc (own := [("side", 1)]) (g := (gName 1)) (tt := tYes) (te := (tCall spShSide [] E0 (tCons (tVar 1) tNil))) rfl sc_show_want.nd (pi_tup (pv 0)) (blkOk_by (N := n_show_want) (sc := defScope a_show_want) (by decide +kernel))
          (fun _ _ _ _ _ => (pg_name (i := 1) sc_show_want.nd rfl (.inl rfl) (hf := .inr rfl))) (fun _ _ _ _ _ => pts_nil) (fun _ _ _ _ _ => (pe_kn Ss hr (by omega) (pa_cons (pv 1) pa_nil))))) (pe_glob (v := .str "-") rfl gv8 ⟨_, rfl⟩)))), ?_⟩
    have hW := hw
    obtain ⟨as, ep, ll, ra⟩ := hw
    refine ⟨.ref p, rfl, (show 0 ≤ sizeLine by decide), fun T nT => ?_⟩
    have sT := same_new (o := HO.tup []) nT
    refine ⟨_, _, dp_wnt (hW.keep (.same sT)), .tup (.inl (.inl upd_same)) .nil, shaped_of (layS _) (depS _), shaped_of rfl (Nat.zero_le _), _, rfl, ?_⟩
    rw [eqv_nil]
    by_cases ne : ss = []
    · rw [decide_eq_true (show ss.map dS = [] by rw [ne]; rfl)]
      refine iteF ?_
      have := q _ sT
      unfold wantT at this
      rw [if_pos ne] at this
      exact this
    rw [decide_eq_false (show ¬ ss.map dS = [] from fun z => ne (List.map_eq_nil_iff.mp z))]
    refine iteT ?_
    have ep1 := sT _ _ ep
    have ra1 : ∀ (i : Nat) (a : Addr) x, as[i]? = some a → ss[i]? = some x → _ := fun i a x h1 h2 => (ra i a x h1 h2)
    generalize hH : upd H T (.tup []) = H1 at sT ep1 ⊢
    refine ⟨⟨_, rfl⟩, .ref p, rfl, p, rfl, ⟨_, .inl (.inl ep1)⟩, fun D nD => lc_it (walk_tup (xs := as.map V.ref)) (fun i H' => Same H1 H' ∧ H' D = some (.lst (((ss.map sideT).take i).map V.str))) ⟨same_new nD, upd_same⟩ (fun i H' _ z => .inl (.inl (z.1 _ _ ep1))) (fun i v H2 H3 hi z y => ?_) (fun H2 z => ?_)⟩
    · obtain ⟨sm, eD⟩ := z
      obtain ⟨rfl, gv⟩ := y
      obtain ⟨r, er, rfl⟩ := mapGet gv
      have hi' : i < ss.length := by
        have := (List.getElem?_eq_some_iff.mp er).1
        omega
      have eq' := List.getElem?_eq_getElem hi'
      have hr' := hs _ (List.getElem_mem hi')
      have s02 := sT.trans sm
      refine ⟨rfl, .ref r, rfl, r, _, rfl, (ra i r _ er eq').keep (.same s02), hr', _, eD, by rw [List.length_map, List.length_take, List.length_map]; exact small1000 (Nat.le_trans (Nat.min_le_right _ _) (by omega)), same_over sm nD, ?_⟩
      rw [upd_same, take_strs (y := sideT ss[i]) (by rw [List.getElem?_map, eq']; rfl)]
    · obtain ⟨sm, eD⟩ := z
      rw [List.take_of_length_le (by rw [List.length_map, List.length_map, ll]; exact Nat.le_refl _)] at eD
      have := q _ (sT.trans sm)
      unfold wantT at this
      rw [if_neg ne] at this
      exact ⟨_, D, ss.map sideT, rfl, rfl, .inl (.inl (.inl eD)), Nat.le_trans (len_wants l24 hs) (by decide), this⟩
abbrev a_show_way : Stmt := topS 6
abbrev n_show_way : List Str := ["way", "thing", "place"]
theorem sc_show_way : FnScope n_show_way ["way"] (defScope a_show_way) := ⟨rfl, rfl, rfl, by decide +kernel, rfl, by decide +kernel, by decide +kernel⟩
set_option maxHeartbeats 8000000 in
theorem ok_show_way {f  : Addr} {fd  : FuncData} {k : Nat} {t8 : Tok} (F : Fun K "show_way" "show_way" a_show_way f fd)  (gv8 : mg "NOTHING" = some (.str "-" t8))  : FnOk P w K mg base CX0 (k + 2) f fd ["way"] spShWay := by
  refine F.ok sc_show_way (fun vs H Q E h => ?_) (fun cdv A outer s H vs Q E hr h => ?_)
  · obtain ⟨p, rws, rfl, _⟩ := h
    rfl
  · obtain ⟨p, rws, rfl, hw, hs, l30, q⟩ := h
    refine ⟨_, (pss_one (ps_ret (pe_ifExp (pt_cmpR (op_neD hr.units) (pv 0) (pe_tup pa_nil) (nomark _)) (pe_join pe_str (
        pe_lc (own := [("thing", 1), ("place", 2)]) (g := (gTup K 2 (gCons (gName 1) (gCons (gName 2) gNil)))) (tt := tYes) (te := (tJoined [tFmt (tVar 1), (tC (.str ":")), tFmt (tVar 2)])) rfl sc_show_way.nd (pi_tup (pv 0)) (blkOk_by (N := n_show_way) (sc := defScope a_show_way) (by decide +kernel))
          (fun _ _ _ _ _ => (pg_tup rfl (pgs_cons (pg_name (i := 1) sc_show_way.nd rfl (.inl rfl) (hf := .inr rfl)) (pgs_cons (pg_name (i := 2) sc_show_way.nd rfl (.inl rfl) (hf := .inr rfl)) pgs_nil)))) (fun _ _ _ _ _ => pts_nil) (fun _ _ _ _ _ => (pe_joined (.cons (pe_fmt (pv 1)) (.cons pe_str (.cons (pe_fmt (pv 2)) .nil))))))) (pe_glob (v := .str "-") rfl gv8 ⟨_, rfl⟩)))), ?_⟩
    have hW := hw
    obtain ⟨as, ep, ll, ra⟩ := hw
    refine ⟨.ref p, rfl, (show 0 ≤ sizeLine by decide), fun T nT => ?_⟩
    have sT := same_new (o := HO.tup []) nT
    refine ⟨_, _, dp_way (hW.keep (.same sT)), .tup (.inl (.inl upd_same)) .nil, shaped_of (layRw _) (depRw _), shaped_of rfl (Nat.zero_le _), _, rfl, ?_⟩
    rw [eqv_nil]
    by_cases ne : rws = []
    · rw [decide_eq_true (show rws.map dRw = [] by rw [ne]; rfl)]
      refine iteF ?_
      have := q _ sT
      unfold wayT at this
      rw [if_pos ne] at this
      exact this
    rw [decide_eq_false (show ¬ rws.map dRw = [] from fun z => ne (List.map_eq_nil_iff.mp z))]
    refine iteT ?_
    have ep1 := sT _ _ ep
    have ra1 : ∀ (i : Nat) (a : Addr) x, as[i]? = some a → rws[i]? = some x → _ := fun i a x h1 h2 => (ra i a x h1 h2)
    generalize hH : upd H T (.tup []) = H1 at sT ep1 ⊢
    refine ⟨⟨_, rfl⟩, .ref p, rfl, p, rfl, ⟨_, .inl (.inl ep1)⟩, fun D nD => lc_it (walk_tup (xs := as.map V.ref)) (fun i H' => Same H1 H' ∧ H' D = some (.lst (((rws.map rwT).take i).map V.str))) ⟨same_new nD, upd_same⟩ (fun i H' _ z => .inl (.inl (z.1 _ _ ep1))) (fun i v H2 H3 hi z y => ?_) (fun H2 z => ?_)⟩
    · obtain ⟨sm, eD⟩ := z
      obtain ⟨rfl, gv⟩ := y
      obtain ⟨r, er, rfl⟩ := mapGet gv
      have hi' : i < rws.length := by
        have := (List.getElem?_eq_some_iff.mp er).1
        omega
      have eq' := List.getElem?_eq_getElem hi'
      have hr' := hs _ (List.getElem_mem hi')
      have s02 := sT.trans sm
      have c1 : (Str.ofString (toString ((rws[i]).1 : Int))).length ≤ 30 := toS_len hr'.thing.1 hr'.thing.2
      have c2 : (Str.ofString (toString (rws[i]).2)).length ≤ 30 := toS_len hr'.2.1 hr'.2.2
      have c3 : (":" : Str).length = 1 := by decide +kernel
      have c4 : Str.empty.length = 0 := by decide +kernel
      refine ⟨r, _, rfl, .inl (.inl (s02 _ _ (ra i r _ er eq'))), rfl, _, _, rfl, _, _, rfl, rfl, wipe_two, _, rfl, .inr ⟨_, rfl, small_log hr'.thing.1 hr'.thing.2, _, rfl, fits (by simp only [len_app]; omega), ?_⟩⟩
      refine ⟨_, rfl, fits (by simp only [len_app]; omega), ?_⟩
      refine ⟨_, rfl, .inr ⟨_, rfl, small_log hr'.2.1 hr'.2.2, _, rfl, fits (by simp only [len_app]; omega), _, eD, by rw [List.length_map, List.length_take, List.length_map]; exact small1000 (Nat.le_trans (Nat.min_le_right _ _) (by omega)), same_over sm nD, ?_⟩⟩
      rw [upd_same, take_strs (y := rwT rws[i]) (by rw [List.getElem?_map, eq']; rfl)]
      rw [em_app]
      rfl
    · obtain ⟨sm, eD⟩ := z
      rw [List.take_of_length_le (by rw [List.length_map, List.length_map, ll]; exact Nat.le_refl _)] at eD
      have := q _ (sT.trans sm)
      unfold wayT at this
      rw [if_neg ne] at this
      exact ⟨_, D, rws.map rwT, rfl, rfl, .inl (.inl (.inl eD)), Nat.le_trans (len_rws l30 hs) (by decide), this⟩
end
end K70

set_option Elab.async false
set_option linter.all false
set_option maxRecDepth 100000
namespace K70
open PySem PySem.Spec PyProof.Rows L2 NB

/-! ### is_standing, is_want; what is read -/
abbrev kIsSt : Stmt := topS 33
theorem scIsSt : FnScope ["plan", "thing", "top", "place"] ["plan", "thing"] (defScope kIsSt) := ⟨rfl, rfl, rfl, by decide +kernel, rfl, by decide +kernel, by decide +kernel⟩
def spIsSt (C : Addr) : Sp := fun vs H Q _ => ∃ (x o t : Addr) (tops st : List Int), vs = [.ref x, .ref o] ∧ TopsAt C H x t tops ∧ H o = some (.tup (st.map V.int)) ∧ st.length = tops.length ∧ tops.length ≤ 12 ∧ (∀ y ∈ st, 0 ≤ y) ∧ Le st tops ∧ ∀ H', Same H H' → Q (.bl true) H'
def spIsWnt (C : Addr) : Sp := fun vs H Q _ => ∃ (x g t : Addr) (tops : List Int) (ss : List Sd), vs = [.ref x, .ref g] ∧ TopsAt C H x t tops ∧ WntAt H g ss ∧ (∀ s ∈ ss, SideOk tops s) ∧ ss.length ≤ 24 ∧ ∀ H', Same H H' → Q (.bl true) H'
def spWTx : Sp := fun vs H Q _ => ∃ z : Str, vs = [.str z] ∧ z.length ≤ 5000 ∧ (Txt.split z ", ").length ≤ 900 ∧ (∀ p ∈ Txt.split z ", ", p.length ≤ 900) ∧ ∀ H', Same H H' → Q (.bl (isWantB z)) H'
def spWantIn : Sp := fun vs H Q _ => ∃ (z : Str) (ss : List Sd), vs = [.str z] ∧ z = wantT ss ∧ (∀ s ∈ ss, SdP s) ∧ ss.length ≤ 24 ∧ ∀ H' g, Same H H' → WntAt H' g ss → Q (.ref g) H'
def spRdRule (C : Addr) : Sp := fun vs H Q _ => ∃ (x t : Addr) (tops : List Int) (rl : Rl), vs = [.ref x, .str (ruleT rl)] ∧ TopsAt C H x t tops ∧ RuleOk tops rl ∧ RlP rl ∧ ∀ H' g, Same H H' → RuleAt H' g rl → Q (.ref g) H'
def spRdStand (C : Addr) : Sp := fun vs H Q _ => ∃ (x t : Addr) (tops st : List Int), vs = [.ref x, .str (standT st)] ∧ TopsAt C H x t tops ∧ st ≠ [] ∧ st.length = tops.length ∧ tops.length ≤ 12 ∧ Pl st ∧ Le st tops ∧ ∀ H' g, Same H H' → H' g = some (.tup (st.map V.int)) → Q (.ref g) H'
def spRdWant (C : Addr) : Sp := fun vs H Q _ => ∃ (x t : Addr) (tops : List Int) (ss : List Sd), vs = [.ref x, .str (wantT ss)] ∧ TopsAt C H x t tops ∧ (∀ s ∈ ss, SideOk tops s) ∧ (∀ s ∈ ss, SdP s) ∧ ss.length ≤ 24 ∧ ∀ H' g, Same H H' → WntAt H' g ss → Q (.ref g) H'
theorem len_wantT {ss : List Sd} (l : ss.length ≤ 24) (h : ∀ s ∈ ss, SdP s) : (wantT ss).length ≤ 1700 := by
  unfold wantT
  by_cases ne : ss = []
  · rw [if_pos ne]; decide +kernel
  · rw [if_neg ne]
    exact Nat.le_trans (len_join _ _) (len_wants l h)
theorem want_parts {ss : List Sd} (l : ss.length ≤ 24) (h : ∀ s ∈ ss, SdP s) : (Txt.split (wantT ss) ", ").length ≤ 900 ∧ ∀ p ∈ Txt.split (wantT ss) ", ", p.length ≤ 900 := by
  unfold wantT
  by_cases ne : ss = []
  · rw [if_pos ne]; decide +kernel
  · rw [if_neg ne, split_want ne h, List.length_map]
    refine ⟨by omega, fun p hp => ?_⟩
    obtain ⟨s, hs, rfl⟩ := List.mem_map.mp hp
    exact Nat.le_trans (len_side (h s hs)) (by decide)
section
variable {P : Program} {w : World} {K : PySem.W.Frag} {mg : Str → Option Value} {base : Heap}
theorem ok_isSt {f fP C : Addr} {fd fdP : FuncData} {k : Nat} (F : Fun K "is_standing" "is_standing" kIsSt f fd) (T : PlanTxt K mg C) (Pc : Kn P w K mg base 2 "is_place" ["top", "thing"] spPlace fP fdP) (ms : mg "isinstance" = none) (mt : mg "tuple" = none) (ml : mg "len" = none) (ma : mg "all" = none) (mz : mg "zip" = none) : FnOk P w K mg base CX0 (k + 3) f fd ["plan", "thing"] (spIsSt C) := by
  refine F.ok scIsSt (fun vs H Q E h => ?_) (fun cdv A outer s H vs Q E hr h => ?_)
  · obtain ⟨x, o, t, tops, st, rfl, _⟩ := h
    rfl
  · obtain ⟨x, o, t, tops, st, rfl, ⟨dx, R, ex, et⟩, eo, ls, l12, h0, hle, q⟩ := h
    refine ⟨_, pss_cons (ps_if (PW.pt (pw_or (pt_not (pt_val (pe_callB call_isi (by rfl) ms (by decide +kernel) (pa_cons (pv 1) (pa_cons (pe_bltn (v := .ty "tuple") (u := .type "tuple") (by rfl) mt (by decide +kernel) rfl) pa_nil)))))
        (pw_or1 (pt_cmpR op_ne (pe_callB call_len_seq (by rfl) ml PySem.boot_len (pa_cons (pv 1) pa_nil)) (pe_callB call_len_seq (by rfl) ml PySem.boot_len (pa_cons (pe_fld (pv 0) rfl) pa_nil)) (nomark _))))) (pss_one (ps_ret pe_bl)) pss_nil)
      (pss_one (ps_ret (pe_callB (cr_all rfl) (by rfl) ma (by decide +kernel) (pa_cons
        (pe_lc (own := [("top", 2), ("place", 3)]) (g := gTup K 2 (gCons (gName 2) (gCons (gName 3) gNil))) (tt := tYes) (te := tCall spPlace [] E0 (tCons (tVar 2) (tCons (tVar 3) tNil))) rfl scIsSt.nd (RZ.pi_zipA (by rfl) mz (pa_cons (pe_fld (pv 0) rfl) (pa_cons (pv 1) pa_nil))) (blkOk_by (N := ["plan", "thing", "top", "place"]) (sc := defScope kIsSt) (by decide +kernel))
          (fun _ _ _ _ _ => pg_tup rfl (pgs_cons (pg_name (i := 2) scIsSt.nd rfl (.inl rfl) (hf := .inr rfl)) (pgs_cons (pg_name (i := 3) scIsSt.nd rfl (.inl rfl) (hf := .inr rfl)) pgs_nil))) (fun _ _ _ _ _ => pts_nil)
          (fun _ _ _ _ _ => pe_kn Pc hr (by omega) (pa_cons (pv 2) (pa_cons (pv 3) pa_nil)))) pa_nil)))), ?_⟩
    refine ⟨.ref o, rfl, _, _, _, _, true, rfl, .ty "tuple", .base (.tup eo), kit_ty (by decide +kernel), true, rfl, iteF ?_⟩
    refine ⟨.ref o, rfl, o, _, rfl, .inr (.inl (.inl eo)), .ref x, rfl, x, C, dx, _, _, rfl, ex, T.cl, T.nT, look_tops _ _, t, _, rfl, .inr (.inl (.inl et)), rfl, _, rfl, iteNS (by rw [List.length_map, List.length_map, ls]) ?_⟩
    refine ⟨.ref x, rfl, x, C, dx, _, _, rfl, ex, T.cl, T.nT, look_tops _ _, .ref o, rfl, t, o, _, _, rfl, .inr ⟨.inl (.inl et), .inl (.inl eo), fun D nD => lc_it (walk_zipT (xs := tops.map V.int) (ys := st.map V.int) (by simpa using ls)) (fun i H' => Same H H' ∧ H' D = some (.lst ((List.replicate i true).map V.bl))) ⟨same_new nD, upd_same⟩ (fun i H' _ p => ⟨.inl (.inl (p.1 _ _ et)), .inl (.inl (p.1 _ _ eo))⟩) (fun i v H1 H2 hi p y => ?_) (fun H' p => ?_)⟩⟩
    · obtain ⟨sm, eD⟩ := p
      obtain ⟨T', a, b, rfl, nT, rfl, ga, gb⟩ := y
      obtain ⟨a, ea, rfl⟩ := mapGet ga
      obtain ⟨b, eb, rfl⟩ := mapGet gb
      have hi' : i < tops.length := by simpa using hi
      have hb := h0 b (List.mem_of_getElem? eb)
      have hb2 := hle i b a eb ea
      refine ⟨T', _, rfl, .inl (.inl upd_same), rfl, _, _, rfl, _, _, rfl, rfl, rfl, .int a, rfl, .int b, rfl, a, b, rfl, _, (upd_ne (ne_of_none eD nT)).trans eD, by rw [List.length_map, List.length_replicate]; exact small1000 (by omega), same_over (same_over sm (sm.free nT)) nD, ?_⟩
      rw [upd_same, more_true, decide_eq_true hb, decide_eq_true hb2]
      rfl
    · obtain ⟨sm, eD⟩ := p
      refine ⟨D, _, rfl, .inl (.inl eD), ?_⟩
      rw [all_true]
      exact q H' sm
abbrev a_is_want : Stmt := topS 36
abbrev n_is_want : List Str := ["plan", "thing"]
theorem sc_is_want : FnScope n_is_want ["plan", "thing"] (defScope a_is_want) := ⟨rfl, rfl, rfl, by decide +kernel, rfl, by decide +kernel, by decide +kernel⟩
set_option maxHeartbeats 8000000 in
theorem ok_is_want {f fSs : Addr} {fd fdSs : FuncData} {k : Nat} {C : Addr} {t6 : Tok} (F : Fun K "is_want" "is_want" a_is_want f fd) (Ss : Kn P w K mg base 4 "are_sides_of" ["tops", "thing"] (spSides K) fSs fdSs) (T : PlanTxt K mg C) (gv6 : mg "MOST_SIDES" = some (.int 24 t6)) (m_len : mg "len" = none) : FnOk P w K mg base CX0 (k + 5) f fd ["plan", "thing"] (spIsWnt C) := by
  refine F.ok sc_is_want (fun vs H Q E h => ?_) (fun cdv A outer s H vs Q E hr h => ?_)
  · obtain ⟨x, g, t, tops, ss, rfl, _⟩ := h
    rfl
  · obtain ⟨x, g, t, tops, ss, rfl, px, hw, ok, l24, q⟩ := h
    refine ⟨_, (pss_one (ps_ret (pe_and (pe_kn Ss hr (by omega) (pa_cons (pe_fld (pv 0) rfl) (pa_cons (pv 1) pa_nil))) (pe_one (pe_cmpR op_le (pe_callB call_len_seq (by rfl) m_len (by decide +kernel) (pa_cons (pv 1) pa_nil)) (pe_glob (v := .int 24) rfl gv6 ⟨_, rfl⟩) (nomark _)))))), ?_⟩
    obtain ⟨dx, R, ex, et⟩ := px
    obtain ⟨as, ep, ll, ra⟩ := hw
    refine ⟨.ref x, rfl, x, C, dx, _, _, rfl, ex, T.cl, T.nT, look_tops _ _, .ref g, rfl, t, g, tops, as, rfl, et, ep, by omega, fun p hp => ?_, fun H1 s1 => ⟨true, rfl, iteT ⟨.ref g, rfl, g, _, rfl, .inr (.inl (.inl (s1 _ _ ep))), _, 24, rfl, rfl, ?_⟩⟩⟩
    · obtain ⟨i, hi⟩ := List.mem_iff_getElem?.mp hp
      have hi' : i < ss.length := by
        have := (List.getElem?_eq_some_iff.mp hi).1
        omega
      exact ⟨ss[i], ra i p _ hi (List.getElem?_eq_getElem hi'), ok _ (List.getElem_mem hi')⟩
    · rw [List.length_map]
      show Q (.bl (decide ((as.length : Int) ≤ 24))) H1
      rw [decide_eq_true (show (as.length : Int) ≤ 24 by omega)]
      exact q H1 s1
abbrev a_is_want_text : Stmt := topS 43
abbrev n_is_want_text : List Str := ["text", "side"]
theorem sc_is_want_text : FnScope n_is_want_text ["text"] (defScope a_is_want_text) := ⟨rfl, rfl, rfl, by decide +kernel, rfl, by decide +kernel, by decide +kernel⟩
set_option maxHeartbeats 8000000 in
theorem ok_is_want_text {f fSi : Addr} {fd fdSi : FuncData} {k : Nat} {t8 : Tok} (F : Fun K "is_want_text" "is_want_text" a_is_want_text f fd) (Si : Kn P w K mg base 2 "is_side_text" ["text"] (spTxIs isSideB) fSi fdSi) (gv8 : mg "NOTHING" = some (.str "-" t8)) (m_all : mg "all" = none) : FnOk P w K mg base CX0 (k + 3) f fd ["text"] spWTx := by
  refine F.ok sc_is_want_text (fun vs H Q E h => ?_) (fun cdv A outer s H vs Q E hr h => ?_)
  · obtain ⟨z, rfl, _⟩ := h
    rfl
  · obtain ⟨z, rfl, lz, lc, lp, q⟩ := h
    refine ⟨_, (pss_one (ps_ret (pe_or (pe_cmpR op_eq (pv 0) (pe_glob (v := .str "-") rfl gv8 ⟨_, rfl⟩) (nomark _)) (pe_one (pe_callB (cr_all rfl) (by rfl) m_all (by decide +kernel) (pa_cons (
        pe_lc (own := [("side", 1)]) (g := (gName 1)) (tt := tYes) (te := (tCall (spTxIs isSideB) [] E0 (tCons (tVar 1) tNil))) rfl sc_is_want_text.nd (pi_list (pe_split (pv 0) pe_str)) (blkOk_by (N := n_is_want_text) (sc := defScope a_is_want_text) (by decide +kernel))
          (fun _ _ _ _ _ => (pg_name (i := 1) sc_is_want_text.nd rfl (.inl rfl) (hf := .inr rfl))) (fun _ _ _ _ _ => pts_nil) (fun _ _ _ _ _ => (pe_kn Si hr (by omega) (pa_cons (pv 1) pa_nil)))) pa_nil)))))), ?_⟩
    unfold isWantB at q
    refine ⟨_, rfl, rfl, decide (z = "-"), congrArg V.bl dstr, ?_⟩
    cases h0 : decide (z = "-") with
    | true =>
      rw [h0] at q
      exact iteT (q H (Same.refl H))
    | false =>
    rw [h0] at q
    refine iteF ⟨_, rfl, ⟨_, rfl⟩, z, ", ", rfl, rfl, by decide +kernel, fits (by omega), fun L nL => ⟨L, rfl, ⟨_, .inl (.inl upd_same)⟩, fun D nD => ?_⟩⟩
    have s1 := same_new (o := .lst ((Txt.split z ", ").map V.str)) nL
    have eL : (upd H L (.lst ((Txt.split z ", ").map V.str))) L = some (.lst ((Txt.split z ", ").map V.str)) := upd_same
    generalize upd H L (.lst ((Txt.split z ", ").map V.str)) = H1 at s1 eL nD ⊢
    generalize Txt.split z ", " = ws at *
    refine lc_it (walk_list (xs := ws.map V.str)) (fun i H' => Same H1 H' ∧ H' D = some (.lst (((ws.take i).map isSideB).map V.bl))) ⟨same_new nD, upd_same⟩ (fun i H' _ p => .inl (.inl (p.1 _ _ eL))) (fun i v H2 H3 hi p y => ?_) (fun H' p => ?_)
    · obtain ⟨sm, eD⟩ := p
      obtain ⟨rfl, gv⟩ := y
      obtain ⟨x, ex, rfl⟩ := mapGet gv
      refine ⟨rfl, _, rfl, x, rfl, lp x (List.mem_of_getElem? ex), fun H4 s4 => ⟨_, s4 _ _ eD, by rw [List.length_map, List.length_map, List.length_take]; exact small1000 (Nat.le_trans (Nat.min_le_right _ _) (by omega)), same_over (sm.trans s4) nD, ?_⟩⟩
      rw [upd_same, all_take isSideB _ i x ex]
    · obtain ⟨sm, eD⟩ := p
      refine ⟨D, _, rfl, .inl (.inl eD), ?_⟩
      rw [List.take_of_length_le (by rw [List.length_map]; exact Nat.le_refl _), all_id]
      exact q H' (s1.trans sm)
abbrev a_want_in : Stmt := topS 47
abbrev n_want_in : List Str := ["text", "side"]
theorem sc_want_in : FnScope n_want_in ["text"] (defScope a_want_in) := ⟨rfl, rfl, rfl, by decide +kernel, rfl, by decide +kernel, by decide +kernel⟩
set_option maxHeartbeats 8000000 in
theorem ok_want_in {f fSi : Addr} {fd fdSi : FuncData} {k : Nat} {t8 : Tok} (F : Fun K "want_in" "want_in" a_want_in f fd) (Si : Kn P w K mg base 1 "side_in" ["text"] spSideIn fSi fdSi) (gv8 : mg "NOTHING" = some (.str "-" t8)) (m_tuple : mg "tuple" = none) : FnOk P w K mg base CX0 (k + 2) f fd ["text"] spWantIn := by
  refine F.ok sc_want_in (fun vs H Q E h => ?_) (fun cdv A outer s H vs Q E hr h => ?_)
  · obtain ⟨z, ss, rfl, _⟩ := h
    rfl
  · obtain ⟨z, ss, rfl, ez, hs, l24, q⟩ := h
    refine ⟨_, (pss_one (ps_ret (pe_ifExp (pt_cmpR op_eq (pv 0) (pe_glob (v := .str "-") rfl gv8 ⟨_, rfl⟩) (nomark _)) (pe_tup pa_nil) (pe_callTy call_tuple_of (by rfl) m_tuple (by decide +kernel) (pa_cons (
        pe_lc (own := [("side", 1)]) (g := (gName 1)) (tt := tYes) (te := (tCall spSideIn [] E0 (tCons (tVar 1) tNil))) rfl sc_want_in.nd (pi_list (pe_split (pv 0) pe_str)) (blkOk_by (N := n_want_in) (sc := defScope a_want_in) (by decide +kernel))
          (fun _ _ _ _ _ => (pg_name (i := 1) sc_want_in.nd rfl (.inl rfl) (hf := .inr rfl))) (fun _ _ _ _ _ => pts_nil) (fun _ _ _ _ _ => (pe_kn Si hr (by omega) (pa_cons (pv 1) pa_nil)))) pa_nil))))), ?_⟩
    subst ez
    have hl := len_wantT l24 hs
    refine ⟨_, rfl, rfl, decide (wantT ss = "-"), congrArg V.bl dstr, ?_⟩
    by_cases ne : ss = []
    · subst ne
      refine iteT ⟨(show 0 ≤ sizeLine by decide), fun T nT => q _ T (same_new nT) ⟨[], upd_same, rfl, fun i a s h => by cases h⟩⟩
    have e0 : wantT ss = Txt.join ", " (ss.map sideT) := if_neg ne
    rw [e0] at hl ⊢
    rw [decide_eq_false (want_ne ne hs)]
    refine iteF ⟨_, rfl, ⟨_, rfl⟩, _, ", ", rfl, rfl, by decide +kernel, fits (by omega), fun L nL => ?_⟩
    rw [split_want ne hs]
    have s1 := same_new (o := .lst ((ss.map sideT).map V.str)) nL
    have eL : (upd H L (.lst ((ss.map sideT).map V.str))) L = some (.lst ((ss.map sideT).map V.str)) := upd_same
    generalize upd H L (.lst ((ss.map sideT).map V.str)) = H1 at s1 eL ⊢
    refine ⟨L, rfl, ⟨_, .inl (.inl eL)⟩, fun D nD => lc_it (walk_list (xs := (ss.map sideT).map V.str)) (fun i H' => Same H1 H' ∧ ∃ as : List Addr, H' D = some (.lst (as.map V.ref)) ∧ as.length = i ∧ ∀ (j : Nat) (a : Addr) (s : Sd), as[j]? = some a → ss[j]? = some s → SideAt H' a s) ⟨same_new nD, [], upd_same, rfl, fun j a q h => by cases h⟩ (fun i H' _ p => .inl (.inl (p.1 _ _ eL))) (fun i v H8 H9 hi p y => ?_) (fun H8 p => ?_)⟩
    · obtain ⟨sm8, as, eD8, al, ha⟩ := p
      obtain ⟨rfl, gv⟩ := y
      obtain ⟨x, ex, rfl⟩ := mapGet gv
      obtain ⟨rl, er, rfl⟩ := mapGet ex
      have hi' : i < 24 := by
        have := (List.getElem?_eq_some_iff.mp er).1
        omega
      refine ⟨rfl, _, rfl, _, rl, rfl, rfl, hs rl (List.mem_of_getElem? er), fun H10 a s10 ea => ⟨_, s10 _ _ eD8, by rw [List.length_map, al]; exact small1000 (by omega), same_over (sm8.trans s10) nD, as ++ [a], by rw [upd_same, List.map_append]; rfl, by rw [List.length_append, al]; rfl, fun j b q' h1 h2 => ?_⟩⟩
      have e10 := s10 _ _ eD8
      have kp : Keep H10 (upd H10 D (.lst (as.map V.ref ++ [V.ref a]))) := Keep.upd e10
      by_cases hj : j < as.length
      · rw [List.getElem?_append_left hj] at h1
        exact ((ha j b q' h1 h2).keep (.same s10)).keep kp
      · rw [List.getElem?_append_right (by omega)] at h1
        have hj0 : j = i := by
          have := (List.getElem?_eq_some_iff.mp h1).1
          simp at this
          omega
        subst hj0
        rw [show j - as.length = 0 by omega] at h1
        rw [er] at h2
        cases h1
        cases h2
        exact ea.keep kp
    · obtain ⟨sm8, as, eD8, al, ha⟩ := p
      have al' : as.length = ss.length := by simpa using al
      refine ⟨D, _, rfl, .inl ⟨.inl (.inl eD8), fun R nR => ?_⟩⟩
      have s9 := same_new (o := HO.tup (as.map V.ref)) nR
      exact q _ R ((s1.trans sm8).trans s9) ⟨as, upd_same, al', fun j a q h1 h2 => (ha j a q h1 h2).keep (.same s9)⟩
abbrev a_read_rule : Stmt := topS 48
abbrev n_read_rule : List Str := ["plan", "text"]
theorem sc_read_rule : FnScope n_read_rule ["plan", "text"] (defScope a_read_rule) := ⟨rfl, rfl, rfl, by decide +kernel, rfl, by decide +kernel, by decide +kernel⟩
set_option maxHeartbeats 8000000 in
theorem ok_read_rule {f fRt fRi fRo : Addr} {fd fdRt fdRi fdRo : FuncData} {k : Nat} {C : Addr} (F : Fun K "read_rule" "read_rule" a_read_rule f fd) (Rt : Kn P w K mg base 3 "is_rule_text" ["text"] (spTxIs isRuleB) fRt fdRt) (Ri : Kn P w K mg base 2 "rule_in" ["text"] spRuleIn fRi fdRi) (Ro : Kn P w K mg base 5 "is_rule_of" ["tops", "thing"] (spRule K) fRo fdRo) (T : PlanTxt K mg C) (m_isinstance : mg "isinstance" = none) (m_str : mg "str" = none) : FnOk P w K mg base CX0 (k + 6) f fd ["plan", "text"] (spRdRule C) := by
  refine F.ok sc_read_rule (fun vs H Q E h => ?_) (fun cdv A outer s H vs Q E hr h => ?_)
  · obtain ⟨x, t, tops, rl, rfl, _⟩ := h
    rfl
  · obtain ⟨x, t, tops, rl, rfl, px, ok, hp, q⟩ := h
    refine ⟨_, (pss_cons (ps_if (PW.pt (pw_or (pt_not (pt_val (pe_callB call_isi (by rfl) m_isinstance (by decide +kernel) (pa_cons (pv 1) (pa_cons (pe_bltn (v := .ty "str") (u := .type "str") (by rfl) m_str (by decide +kernel) rfl) pa_nil))))) (pw_or (pt_not (pt_val (pe_kn Rt hr (by omega) (pa_cons (pv 1) pa_nil)))) (pw_or1 (pt_not (pt_val (pe_kn Ro hr (by omega) (pa_cons (pe_fld (pv 0) rfl) (pa_cons (pe_kn Ri hr (by omega) (pa_cons (pv 1) pa_nil)) pa_nil))))))))) (pss_one (ps_never)) pss_nil)
      (pss_one (ps_ret (pe_kn Ri hr (by omega) (pa_cons (pv 1) pa_nil))))), ?_⟩
    obtain ⟨dx, R, ex, et⟩ := px
    refine ⟨_, rfl, _, _, _, _, true, rfl, .ty "str", .base (.str _), kit_ty (by decide +kernel), true, rfl, iteF ?_⟩
    refine ⟨_, rfl, ruleT rl, rfl, Nat.le_trans (len_rule hp) (by decide), fun H1 s1 => ⟨true, congrArg V.bl (rule_okT hp), iteF ?_⟩⟩
    refine ⟨.ref x, rfl, x, C, dx, _, _, rfl, s1 _ _ ex, T.cl, T.nT, look_tops _ _, _, rfl, ruleT rl, rl, rfl, rfl, hp, fun H2 g s2 eg => ?_⟩
    have s02 := s1.trans s2
    refine ⟨t, g, tops, rl, rfl, s02 _ _ et, eg, ok, fun H3 s3 => ⟨true, rfl, iteF ?_⟩⟩
    exact ⟨_, rfl, ruleT rl, rl, rfl, rfl, hp, fun H4 g4 s4 eg4 => q H4 g4 ((s02.trans s3).trans s4) eg4⟩
abbrev a_read_standing : Stmt := topS 49
abbrev n_read_standing : List Str := ["plan", "text"]
theorem sc_read_standing : FnScope n_read_standing ["plan", "text"] (defScope a_read_standing) := ⟨rfl, rfl, rfl, by decide +kernel, rfl, by decide +kernel, by decide +kernel⟩
set_option maxHeartbeats 8000000 in
theorem ok_read_standing {f fAn fNi fIs : Addr} {fd fdAn fdNi fdIs : FuncData} {k : Nat} {C : Addr} (F : Fun K "read_standing" "read_standing" a_read_standing f fd) (An : Kn P w K mg base 2 "are_numbers" ["text"] (spTxIs areNumsB) fAn fdAn) (Ni : Kn P w K mg base 1 "numbers_in" ["text"] spNumsIn fNi fdNi) (Is : Kn P w K mg base 3 "is_standing" ["plan", "thing"] (spIsSt C) fIs fdIs)  (m_isinstance : mg "isinstance" = none) (m_str : mg "str" = none) : FnOk P w K mg base CX0 (k + 4) f fd ["plan", "text"] (spRdStand C) := by
  refine F.ok sc_read_standing (fun vs H Q E h => ?_) (fun cdv A outer s H vs Q E hr h => ?_)
  · obtain ⟨x, t, tops, st, rfl, _⟩ := h
    rfl
  · obtain ⟨x, t, tops, st, rfl, px, ne, ls, l12, pl, le, q⟩ := h
    refine ⟨_, (pss_cons (ps_if (PW.pt (pw_or (pt_not (pt_val (pe_callB call_isi (by rfl) m_isinstance (by decide +kernel) (pa_cons (pv 1) (pa_cons (pe_bltn (v := .ty "str") (u := .type "str") (by rfl) m_str (by decide +kernel) rfl) pa_nil))))) (pw_or (pt_not (pt_val (pe_kn An hr (by omega) (pa_cons (pv 1) pa_nil)))) (pw_or1 (pt_not (pt_val (pe_kn Is hr (by omega) (pa_cons (pv 0) (pa_cons (pe_kn Ni hr (by omega) (pa_cons (pv 1) pa_nil)) pa_nil))))))))) (pss_one (ps_never)) pss_nil)
      (pss_one (ps_ret (pe_kn Ni hr (by omega) (pa_cons (pv 1) pa_nil))))), ?_⟩
    have sl := stand_len (xs := st) (by omega) pl
    refine ⟨_, rfl, _, _, _, _, true, rfl, .ty "str", .base (.str _), kit_ty (by decide +kernel), true, rfl, iteF ?_⟩
    refine ⟨_, rfl, standT st, rfl, by omega, fun H1 s1 => ⟨true, congrArg V.bl (nums_ok ne pl), iteF ?_⟩⟩
    refine ⟨.ref x, rfl, _, rfl, standT st, st, rfl, rfl, ne, pl, by omega, fun H2 g s2 eg => ?_⟩
    have s02 := s1.trans s2
    refine ⟨x, g, t, tops, st, rfl, px.keep (.same s02), eg, ls, l12, fun y hy => (pl y hy).1, le, fun H3 s3 => ⟨true, rfl, iteF ?_⟩⟩
    exact ⟨_, rfl, standT st, st, rfl, rfl, ne, pl, by omega, fun H4 g4 s4 eg4 => q H4 g4 ((s02.trans s3).trans s4) eg4⟩
abbrev a_read_want : Stmt := topS 50
abbrev n_read_want : List Str := ["plan", "text"]
theorem sc_read_want : FnScope n_read_want ["plan", "text"] (defScope a_read_want) := ⟨rfl, rfl, rfl, by decide +kernel, rfl, by decide +kernel, by decide +kernel⟩
set_option maxHeartbeats 8000000 in
theorem ok_read_want {f fWt fWi fIw : Addr} {fd fdWt fdWi fdIw : FuncData} {k : Nat} {C : Addr} (F : Fun K "read_want" "read_want" a_read_want f fd) (Wt : Kn P w K mg base 3 "is_want_text" ["text"] spWTx fWt fdWt) (Wi : Kn P w K mg base 2 "want_in" ["text"] spWantIn fWi fdWi) (Iw : Kn P w K mg base 5 "is_want" ["plan", "thing"] (spIsWnt C) fIw fdIw)  (m_isinstance : mg "isinstance" = none) (m_str : mg "str" = none) : FnOk P w K mg base CX0 (k + 6) f fd ["plan", "text"] (spRdWant C) := by
  refine F.ok sc_read_want (fun vs H Q E h => ?_) (fun cdv A outer s H vs Q E hr h => ?_)
  · obtain ⟨x, t, tops, ss, rfl, _⟩ := h
    rfl
  · obtain ⟨x, t, tops, ss, rfl, px, ok, hs, l24, q⟩ := h
    refine ⟨_, (pss_cons (ps_if (PW.pt (pw_or (pt_not (pt_val (pe_callB call_isi (by rfl) m_isinstance (by decide +kernel) (pa_cons (pv 1) (pa_cons (pe_bltn (v := .ty "str") (u := .type "str") (by rfl) m_str (by decide +kernel) rfl) pa_nil))))) (pw_or (pt_not (pt_val (pe_kn Wt hr (by omega) (pa_cons (pv 1) pa_nil)))) (pw_or1 (pt_not (pt_val (pe_kn Iw hr (by omega) (pa_cons (pv 0) (pa_cons (pe_kn Wi hr (by omega) (pa_cons (pv 1) pa_nil)) pa_nil))))))))) (pss_one (ps_never)) pss_nil)
      (pss_one (ps_ret (pe_kn Wi hr (by omega) (pa_cons (pv 1) pa_nil))))), ?_⟩
    have sl := len_wantT l24 hs
    have sp := want_parts l24 hs
    refine ⟨_, rfl, _, _, _, _, true, rfl, .ty "str", .base (.str _), kit_ty (by decide +kernel), true, rfl, iteF ?_⟩
    refine ⟨_, rfl, wantT ss, rfl, by omega, sp.1, sp.2, fun H1 s1 => ⟨true, congrArg V.bl (want_ok hs), iteF ?_⟩⟩
    refine ⟨.ref x, rfl, _, rfl, wantT ss, ss, rfl, rfl, hs, l24, fun H2 g s2 eg => ?_⟩
    have s02 := s1.trans s2
    refine ⟨x, g, t, tops, ss, rfl, px.keep (.same s02), eg, ok, l24, fun H3 s3 => ⟨true, rfl, iteF ?_⟩⟩
    exact ⟨_, rfl, wantT ss, ss, rfl, rfl, hs, l24, fun H4 g4 s4 eg4 => q H4 g4 ((s02.trans s3).trans s4) eg4⟩
end
end K70

set_option Elab.async false
set_option linter.all false
set_option maxRecDepth 100000
namespace K70
open PySem PySem.Spec PyProof.Rows L2 NB

/-! ### letters in writing -/
abbrev Wi := Int × List Int
def WiP (w : Wi) : Prop := 1 ≤ w.1 ∧ w.1 < 10 ^ 30 ∧ w.2 ≠ [] ∧ w.2.length ≤ 12 ∧ Pl w.2
def WV (H : Hp) (v : V) : Option Wi → Prop
  | none => v = .non
  | some w => ∃ p q, v = .ref p ∧ H p = some (.tup [.int w.1, .ref q]) ∧ H q = some (.tup (w.2.map V.int))
theorem WV.keep {H H' : Hp} {v : V} : ∀ {o : Option Wi}, WV H v o → Keep H H' → WV H' v o
  | none, h, _ => h
  | some w, ⟨p, q, e, e1, e2⟩, k => ⟨p, q, e, k.tup e1, k.tup e2⟩
abbrev Lt := Str × List Int × Option Wi
def LetAt (H : Hp) (p : Addr) (l : Lt) : Prop := ∃ v, H p = some (.tup (.str l.1 :: (l.2.1.map V.int ++ [v]))) ∧ WV H v l.2.2
theorem LetAt.keep {H H' : Hp} {p : Addr} {l : Lt} (h : LetAt H p l) (k : Keep H H') : LetAt H' p l := by
  obtain ⟨v, e, w⟩ := h
  exact ⟨v, k.tup e, w.keep k⟩
def LetP (l : Lt) : Prop := (((l.1 = "ask" ∨ l.1 = "leave") ∧ l.2.1.length = 2) ∨ (l.1 = "word" ∧ l.2.1 = [] ∧ l.2.2 ≠ none)) ∧ Pl l.2.1 ∧ ∀ w, l.2.2 = some w → WiP w
theorem LetP.few {l : Lt} (h : LetP l) : l.2.1.length ≤ 2 := by
  rcases h.1 with ⟨_, e⟩ | ⟨_, e, _⟩
  · omega
  · rw [e]; exact Nat.zero_le _
theorem LetP.word {l : Lt} (h : LetP l) : l.1 = "ask" ∨ l.1 = "leave" ∨ l.1 = "word" := by
  rcases h.1 with ⟨e | e, _⟩ | ⟨e, _⟩
  · exact .inl e
  · exact .inr (.inl e)
  · exact .inr (.inr e)
def wishT : Option Wi → Str
  | none => "-"
  | some w => toS w.1 ++ "@" ++ Txt.join "." (w.2.map toS)
def letW (l : Lt) : List Str := (l.1 :: l.2.1.map toS) ++ [wishT l.2.2]
def letT (l : Lt) : Str := Txt.join " " (letW l)
theorem tl_at : TL.tl ("@" : Str) = [64] := by decide +kernel
theorem tl_dot : TL.tl ("." : Str) = [46] := by decide +kernel
theorem split_places {xs : List Int} (ne : xs ≠ []) (h : Pl xs) : Txt.split (Txt.join "." (xs.map toS)) "." = xs.map toS :=
  TL.split_join tl_dot (by decide +kernel) (by simpa using ne) fun p hp => by
    obtain ⟨x, hx, rfl⟩ := List.mem_map.mp hp
    exact toS_free (h x hx).1 (by decide)
theorem part_wish {w : Wi} (h : WiP w) : Txt.partition (wishT (some w)) "@" = (toS w.1, ("@" : Str), Txt.join "." (w.2.map toS)) :=
  TL.partition_app (y := "@") (a := toS w.1) tl_at (toS_free (show (0 : Int) ≤ w.1 by have := h.1; omega) (by decide))
theorem wish_free {o : Option Wi} (h : ∀ w, o = some w → WiP w) : 32 ∉ TL.tl (wishT o) := by
  cases o with
  | none => show 32 ∉ TL.tl ("-" : Str); decide +kernel
  | some w =>
    have hw := h w rfl
    show 32 ∉ TL.tl (toS w.1 ++ "@" ++ Txt.join "." (w.2.map toS))
    rw [TL.tl_append, TL.tl_append]
    intro z
    rcases List.mem_append.mp z with z | z
    · rcases List.mem_append.mp z with z | z
      · exact toS_free (show (0 : Int) ≤ w.1 by have := hw.1; omega) (by decide) z
      · exact absurd z (by decide +kernel)
    · exact free_join (by decide +kernel) (fun p hp => by
        obtain ⟨x, hx, rfl⟩ := List.mem_map.mp hp
        exact toS_free (hw.2.2.2.2 x hx).1 (by decide)) z
theorem split_let {l : Lt} (h : LetP l) : Txt.split (letT l) " " = letW l :=
  TL.split_join tl_sp (by decide +kernel) (by unfold letW; simp) fun p hp => by
    unfold letW at hp
    rcases List.mem_append.mp hp with hp | hp
    · rcases List.mem_cons.mp hp with rfl | hp
      · rcases h.word with e | e | e <;> rw [e] <;> decide +kernel
      · obtain ⟨x, hx, rfl⟩ := List.mem_map.mp hp
        exact toS_free (h.2.1 x hx).1 (by decide)
    · rw [List.mem_singleton.mp hp]
      exact wish_free h.2.2
theorem len_places {xs : List Int} (l : xs.length ≤ 12) (h : Pl xs) : ((xs.map toS).map (·.length)).sum + (xs.map toS).length * ("." : Str).length ≤ 372 := by
  have := sum_le (·.length) 30 (xs.map toS) fun x hx => by
    obtain ⟨y, hy, rfl⟩ := List.mem_map.mp hx
    exact toS_len (h y hy).1 (h y hy).2
  have d : ("." : Str).length = 1 := by decide +kernel
  rw [List.length_map] at this ⊢
  rw [d]
  omega
theorem places_len {xs : List Int} (l : xs.length ≤ 12) (h : Pl xs) : (Txt.join "." (xs.map toS)).length ≤ 372 := Nat.le_trans (len_join _ _) (len_places l h)
theorem wish_len {o : Option Wi} (h : ∀ w, o = some w → WiP w) : (wishT o).length ≤ 410 := by
  cases o with
  | none => show ("-" : Str).length ≤ 410; decide +kernel
  | some w =>
    have hw := h w rfl
    show (toS w.1 ++ "@" ++ Txt.join "." (w.2.map toS)).length ≤ 410
    rw [len_app, len_app]
    have a := toS_len (show (0 : Int) ≤ w.1 by have := hw.1; omega) hw.2.1
    have b := places_len hw.2.2.2.1 hw.2.2.2.2
    have d : ("@" : Str).length = 1 := by decide +kernel
    omega
theorem len_let {l : Lt} (h : LetP l) : ((letW l).map (·.length)).sum + (letW l).length * (" " : Str).length ≤ 600 := by
  unfold letW
  have a := sum_le (·.length) 30 (l.2.1.map toS) fun x hx => by
    obtain ⟨y, hy, rfl⟩ := List.mem_map.mp hx
    exact toS_len (h.2.1 y hy).1 (h.2.1 y hy).2
  have b := wish_len h.2.2
  have c := h.few
  have d : (" " : Str).length = 1 := by decide +kernel
  have e : l.1.length ≤ 5 := by rcases h.word with e | e | e <;> rw [e] <;> decide +kernel
  rw [List.length_map] at a
  simp only [List.map_append, List.map_cons, List.map_nil, List.sum_append, List.sum_cons, List.sum_nil, List.length_append, List.length_cons, List.length_nil, List.length_map]
  rw [d]
  omega
theorem let_len {l : Lt} (h : LetP l) : (letT l).length ≤ 600 := Nat.le_trans (len_join _ _) (len_let h)
theorem wish_ne {w : Wi} (h : WiP w) : wishT (some w) ≠ "-" := fun z => by
  obtain ⟨c, r, e, h1, h2⟩ := toS_head (show (0 : Int) ≤ w.1 by have := h.1; omega)
  have := congrArg TL.tl z
  rw [show TL.tl ("-" : Str) = [45] from by decide +kernel] at this
  have h3 : TL.tl (toS w.1 ++ "@" ++ Txt.join "." (w.2.map toS)) = [45] := this
  rw [TL.tl_append, TL.tl_append, e] at h3
  injection h3 with h3 _
  omega
theorem cut_but (xs : List V) (v : V) : cutV (xs ++ [v]) none (some (-1)) = xs := by
  show (((xs ++ [v]).drop (HT.sIx (xs ++ [v]).length 0 none)).take (HT.sIx (xs ++ [v]).length (xs ++ [v]).length (some (-1)) - HT.sIx (xs ++ [v]).length 0 none)) = _
  show ((xs ++ [v]).drop 0).take (HT.sIx (xs ++ [v]).length (xs ++ [v]).length (some (-1)) - 0) = _
  have e : HT.sIx (xs ++ [v]).length (xs ++ [v]).length (some (-1)) = xs.length := by
    unfold HT.sIx
    rw [List.length_append]
    simp
    omega
  rw [List.drop_zero, e, Nat.sub_zero, List.take_left]
theorem cut_mid (u : V) (xs : List V) (v : V) : cutV ((u :: xs) ++ [v]) (some 1) (some (-1)) = xs := by
  have e1 : HT.sIx ((u :: xs) ++ [v]).length 0 (some (1 : Int)) = 1 := by
    have := HT.sIx_nat ((u :: xs) ++ [v]).length 0 1
    have e : ((1 : Nat) : Int) = 1 := rfl
    rw [e] at this
    rw [this]
    simp
  have e2 : HT.sIx ((u :: xs) ++ [v]).length ((u :: xs) ++ [v]).length (some (-1)) = xs.length + 1 := by
    unfold HT.sIx
    rw [List.length_append]
    simp
    omega
  unfold cutV
  rw [e1, e2, Nat.add_sub_cancel]
  show (xs ++ [v]).take xs.length = xs
  rw [List.take_left]
theorem ixN_last (n : Nat) : ixN (n + 1) (-1) = some n := by
  unfold ixN
  rw [if_neg (by omega), if_pos (by omega)]
  congr 1
  omega
theorem at_last {α : Type} (xs : List α) (x : α) : atI (xs ++ [x]) (-1) = some x := by
  unfold atI
  rw [List.length_append]
  show (ixN (xs.length + 1) (-1)).bind _ = _
  rw [ixN_last]
  show (xs ++ [x])[xs.length]? = some x
  rw [List.getElem?_append_right (Nat.le_refl _), Nat.sub_self]
  rfl
theorem cut_buT {K : PySem.W.Frag} {H : Hp} {p : Addr} {xs : List V} {v : V} {Q : VK} (h : H p = some (.tup (xs ++ [v]))) (q : ∀ g H', Same H H' → H' g = some (.tup xs) → Q (.ref g) H') : rSlA K (.ref p) none (some (-1)) H Q := by
  refine ⟨p, _, rfl, .inl (.inl h), fun w => ?_, fun _ g ng => ?_⟩
  · have e : HT.sIx (xs ++ [v]).length (xs ++ [v]).length (some (-1)) = xs.length := by
      unfold HT.sIx
      rw [List.length_append]
      simp
      omega
    have w2 := w.2
    rw [e, List.length_append] at w2
    simp at w2
  · refine q g _ (same_new ng) ?_
    rw [upd_same, cut_but]
/-! ### as data -/
def wiD : Option Wi → PyData
  | none => .none
  | some w => .tuple [.int w.1, .tuple (w.2.map PyData.int)]
def ltD (l : Lt) : PyData := .tuple ((.str l.1 :: l.2.1.map PyData.int) ++ [wiD l.2.2])
theorem da_ints {n : Addr} {H : Hp} : ∀ xs : List Int, DaAll n H (xs.map V.int) (xs.map PyData.int)
  | [] => .nil
  | x :: xs => .cons (.int x) (da_ints xs)
theorem da_app {n : Addr} {H : Hp} : ∀ {xs : List V} {ds : List PyData} {v : V} {d : PyData}, DaAll n H xs ds → Da n H v d → DaAll n H (xs ++ [v]) (ds ++ [d])
  | [], _, _, _, .nil, h => .cons h .nil
  | _ :: _, _, _, _, .cons h1 h2, h => .cons h1 (da_app h2 h)
theorem da_wish {n : Addr} {H : Hp} {v : V} : ∀ {o : Option Wi}, WV H v o → Da n H v (wiD o)
  | none, h => by
    have e : v = .non := h
    rw [e]
    exact .non
  | some w, ⟨p, q, e, e1, e2⟩ => by
    rw [e]
    exact .tup e1 (.cons (.int _) (.cons (.tup e2 (da_ints _)) .nil))
theorem da_let {n : Addr} {H : Hp} {p : Addr} {l : Lt} (h : LetAt H p l) : Da n H (.ref p) (ltD l) := by
  obtain ⟨v, e, w⟩ := h
  exact .tup e (da_app (xs := .str l.1 :: l.2.1.map V.int) (.cons (.str _) (da_ints _)) (da_wish w))
theorem count_ints {xs : List Int} (h : Pl xs) : (xs.map PyData.int).all countD = true := by
  rw [List.all_eq_true]
  intro d hd
  obtain ⟨x, hx, rfl⟩ := List.mem_map.mp hd
  exact decide_eq_true (h x hx).1
theorem wish_isD {w : Wi} (h : WiP w) : wishD (wiD (some w)) = true := by
  show (decide (2 = 2) && (decide (1 ≤ w.1) && ((decide (1 ≤ (w.2.map PyData.int).length) && decide ((w.2.map PyData.int).length ≤ 12)) && (w.2.map PyData.int).all countD))) = true
  have l1 : 1 ≤ w.2.length := List.length_pos_iff.mpr h.2.2.1
  rw [count_ints h.2.2.2.2, List.length_map, decide_eq_true h.1, decide_eq_true l1, decide_eq_true h.2.2.2.1]
  rfl
theorem let_isD {l : Lt} (h : LetP l) : letterD (ltD l) = true := by
  obtain ⟨a, ns, o⟩ := l
  rcases h.1 with ⟨hw, h2⟩ | ⟨hw, h0, hn⟩
  · match ns, h2, h with
    | [i, j], _, h =>
    have hi := h.2.1 i (by simp)
    have hj := h.2.1 j (by simp)
    show (if (4 : Nat) = 2 then (strIs "word" (PyData.str a) && wishD (PyData.int i)) else decide ((4 : Nat) = 4) && ((decide (a = "ask") || decide (a = "leave")) && ((decide (0 ≤ i) && decide (0 ≤ j)) && (noneD (wiD o) || wishD (wiD o))))) = true
    rw [if_neg (by decide), decide_eq_true hi.1, decide_eq_true hj.1]
    have ho : (noneD (wiD o) || wishD (wiD o)) = true := by
      cases o with
      | none => rfl
      | some w => rw [wish_isD (h.2.2 w rfl), Bool.or_true]
    rw [ho]
    rcases hw with e | e
    · have e' : a = "ask" := e
      rw [e']; decide +kernel
    · have e' : a = "leave" := e
      rw [e']; decide +kernel
  · have e0 : ns = [] := h0
    subst e0
    have ea : a = "word" := hw
    cases o with
    | none => exact absurd rfl hn
    | some w =>
      show (decide (a = "word") && wishD (wiD (some w))) = true
      rw [wish_isD (h.2.2 w rfl), decide_eq_true ea]
      rfl
theorem call_strE {X : Cx} : CallR X (.type "str") (fun xs H Q => (∃ i, xs = [.int i] ∧ i.natAbs.log2 < 1920 ∧ Q (.str (Str.ofString (toString i))) H) ∨ ∃ a, xs = [.str a] ∧ Q (.str a) H) := by
  intro pins s σ H xs us Q I r h
  rcases h with h | h
  · exact call_str_int pins s σ H xs us Q I r h
  · exact SkE.call_str_str pins s σ H xs us Q I r h
def tTxStrE (t : TA) : TE := tCB (fun xs H Q => (∃ i, xs = [.int i] ∧ i.natAbs.log2 < 1920 ∧ Q (.str (Str.ofString (toString i))) H) ∨ ∃ a, xs = [.str a] ∧ Q (.str a) H) t
def spShWish : Sp := fun vs H Q _ => ∃ (v : V) (o : Option Wi), vs = [v] ∧ WV H v o ∧ (∀ w, o = some w → WiP w) ∧ ∀ H', Same H H' → Q (.str (wishT o)) H'
def spShLet : Sp := fun vs H Q _ => ∃ (p : Addr) (l : Lt), vs = [.ref p] ∧ LetAt H p l ∧ LetP l ∧ ∀ H', Same H H' → Q (.str (letT l)) H'
def spNumIn : Sp := fun vs H Q _ => ∃ i : Int, vs = [.str (toS i)] ∧ 0 ≤ i ∧ i < 10 ^ 30 ∧ Q (.int i) H
def spWishIn : Sp := fun vs H Q _ => ∃ o : Option Wi, vs = [.str (wishT o)] ∧ (∀ w, o = some w → WiP w) ∧ ∀ H' v, Same H H' → WV H' v o → Q v H'
def spRdLet : Sp := fun vs H Q _ => ∃ l : Lt, vs = [.str (letT l)] ∧ LetP l ∧ ∀ H' p, Same H H' → LetAt H' p l → Q (.ref p) H'
/-- ints and a text told as texts -/
def txv : V → Str
  | .int i => toS i
  | .str z => z
  | _ => ""
section
variable {P : Program} {w : World} {K : PySem.W.Frag} {mg : Str → Option Value} {base : Heap}
abbrev a_show_wish : Stmt := topS 7
abbrev n_show_wish : List Str := ["wish", "number", "standing", "places", "place"]
theorem sc_show_wish : FnScope n_show_wish ["wish"] (defScope a_show_wish) := ⟨rfl, rfl, rfl, by decide +kernel, rfl, by decide +kernel, by decide +kernel⟩
set_option maxHeartbeats 8000000 in
theorem ok_show_wish {f  : Addr} {fd  : FuncData} {k : Nat} {t8 : Tok} (F : Fun K "show_wish" "show_wish" a_show_wish f fd)  (gv8 : mg "NOTHING" = some (.str "-" t8)) (m_str : mg "str" = none) : FnOk P w K mg base CX0 (k + 1) f fd ["wish"] spShWish := by
  refine F.ok sc_show_wish (fun vs H Q E h => ?_) (fun cdv A outer s H vs Q E hr h => ?_)
  · obtain ⟨v, o, rfl, _⟩ := h
    rfl
  · obtain ⟨v, o, rfl, hv, hw, q⟩ := h
    refine ⟨_, (pss_cons (ps_if (pt_cmpR op_isN (pv 0) pe_non (nomark _)) (pss_one (ps_ret (pe_glob (v := .str "-") rfl gv8 ⟨_, rfl⟩))) pss_nil)
      (pss_cons (ps_asg (pv 0) (pg_tup rfl (pgs_cons (pg_name (i := 1) sc_show_wish.nd rfl (.inl rfl)) (pgs_cons (pg_name (i := 2) sc_show_wish.nd rfl (.inl rfl)) pgs_nil))))
      (pss_cons (ps_set (i := 3) sc_show_wish.nd rfl (.inl rfl) (pe_join pe_str (
        pe_lc (own := [("place", 4)]) (g := (gName 4)) (tt := tYes) (te := (tTxStr (tCons (tVar 4) tNil))) rfl sc_show_wish.nd (pi_tup (pv 2)) (blkOk_by (N := n_show_wish) (sc := defScope a_show_wish) (by decide +kernel))
          (fun _ _ _ _ _ => (pg_name (i := 4) sc_show_wish.nd rfl (.inl rfl) (hf := .inr rfl))) (fun _ _ _ _ _ => pts_nil) (fun _ _ _ _ _ => (pe_callTy call_str_int (by rfl) m_str (by decide +kernel) (pa_cons (pv 4) pa_nil))))))
      (pss_one (ps_ret (pe_joined (.cons (pe_fmt (pv 1)) (.cons pe_str (.cons (pe_fmt (pv 3)) .nil))))))))), ?_⟩
    cases o with
    | none =>
      obtain rfl : v = .non := hv
      exact ⟨_, rfl, rfl, true, congrArg V.bl (decide_eq_true rfl), iteT (q H (Same.refl H))⟩
    | some w =>
      obtain ⟨p, g, rfl, ep, eg⟩ := hv
      obtain ⟨w1, w2, w3, w4, w5⟩ := hw w rfl
      have hn : (0 : Int) ≤ w.1 := by omega
      have c1 : (Str.ofString (toString w.1)).length ≤ 30 := toS_len hn w2
      have c3 : ("@" : Str).length = 1 := by decide +kernel
      have c4 : Str.empty.length = 0 := by decide +kernel
      have c5 := places_len w4 w5
      refine ⟨_, rfl, rfl, false, congrArg V.bl (decide_eq_false (fun z => by cases z)), iteF ?_⟩
      refine ⟨.ref p, rfl, p, _, rfl, .inl (.inl ep), rfl, _, _, rfl, _, _, rfl, rfl, ?_⟩
      dsimp only [List.set]
      refine ⟨⟨_, rfl⟩, .ref g, rfl, g, rfl, ⟨_, .inl (.inl eg)⟩, fun D nD => lc_it (walk_tup (xs := w.2.map V.int)) (fun i H' => Same H H' ∧ H' D = some (.lst (((w.2.map toS).take i).map V.str))) ⟨same_new nD, upd_same⟩ (fun i H' _ z => .inl (.inl (z.1 _ _ eg))) (fun i v H1 H2 hi z y => ?_) (fun H' z => ?_)⟩
      · obtain ⟨sm, eD⟩ := z
        obtain ⟨rfl, gv⟩ := y
        obtain ⟨x, ex, rfl⟩ := mapGet gv
        have hx := w5 x (List.mem_of_getElem? ex)
        refine ⟨rfl, _, rfl, x, rfl, small_log hx.1 hx.2, _, eD, by rw [List.length_map, List.length_take, List.length_map]; exact small1000 (Nat.le_trans (Nat.min_le_right _ _) (by omega)), same_over sm nD, ?_⟩
        rw [upd_same, take_strs (y := toS x) (by rw [List.getElem?_map, ex]; rfl)]
      · obtain ⟨sm, eD⟩ := z
        rw [List.take_of_length_le (by rw [List.length_map, List.length_map]; exact Nat.le_refl _)] at eD
        refine ⟨_, D, w.2.map toS, rfl, rfl, .inl (.inl (.inl eD)), Nat.le_trans (len_places w4 w5) (by decide), ?_⟩
        dsimp only [List.set]
        refine ⟨_, rfl, .inr ⟨_, rfl, small_log hn w2, _, rfl, fits (by simp only [len_app]; omega), _, rfl, fits (by simp only [len_app]; omega), _, rfl, .inl ⟨_, rfl, fits (by omega), _, rfl, fits (by simp only [len_app]; omega), ?_⟩⟩⟩
        rw [em_app]
        exact q H' sm
abbrev a_show_letter : Stmt := topS 8
abbrev n_show_letter : List Str := ["letter", "words", "part"]
theorem sc_show_letter : FnScope n_show_letter ["letter"] (defScope a_show_letter) := ⟨rfl, rfl, rfl, by decide +kernel, rfl, by decide +kernel, by decide +kernel⟩
set_option maxHeartbeats 8000000 in
theorem ok_show_letter {f fSw : Addr} {fd fdSw : FuncData} {k : Nat}  (F : Fun K "show_letter" "show_letter" a_show_letter f fd) (Sw : Kn P w K mg base 1 "show_wish" ["wish"] spShWish fSw fdSw)  (m_str : mg "str" = none) : FnOk P w K mg base CX0 (k + 3) f fd ["letter"] spShLet := by
  refine F.ok sc_show_letter (fun vs H Q E h => ?_) (fun cdv A outer s H vs Q E hr h => ?_)
  · obtain ⟨p, l, rfl, _⟩ := h
    rfl
  · obtain ⟨p, l, rfl, hl, lp, q⟩ := h
    refine ⟨_, (pss_cons (ps_set (i := 1) sc_show_letter.nd rfl (.inl rfl) (pe_op op_cat (
        pe_lc (own := [("part", 2)]) (g := (gName 2)) (tt := tYes) (te := (tTxStrE (tCons (tVar 2) tNil))) rfl sc_show_letter.nd (pi_tup (pe_slice (r := rSlA K) sl_tupA (pv 0) po_none (po_some (pe_un un_neg pe_int)))) (blkOk_by (N := n_show_letter) (sc := defScope a_show_letter) (by decide +kernel))
          (fun _ _ _ _ _ => (pg_name (i := 2) sc_show_letter.nd rfl (.inl rfl) (hf := .inr rfl))) (fun _ _ _ _ _ => pts_nil) (fun _ _ _ _ _ => (pe_callTy call_strE (by rfl) m_str (by decide +kernel) (pa_cons (pv 2) pa_nil)))) (pe_lst (pa_cons (pe_kn Sw hr (by omega) (pa_cons (pe_ix ix_tup (pv 0) (pe_un un_neg pe_int) (fun _ _ => rfl)) pa_nil)) pa_nil))))
      (pss_one (ps_ret (pe_join pe_str (pv 1))))), ?_⟩
    obtain ⟨v, ep, hv⟩ := hl
    have lf := lp.few
    refine ⟨.ref p, rfl, 1, rfl, -1, rfl, cut_buT (xs := V.str l.1 :: l.2.1.map V.int) (v := v) ep fun g H1 s1 eg => ?_⟩
    have lw : (l.1 :: l.2.1.map toS).length = l.2.1.length + 1 := by rw [List.length_cons, List.length_map]
    refine ⟨g, rfl, ⟨_, .inl (.inl eg)⟩, fun D nD => lc_it (walk_tup (xs := V.str l.1 :: l.2.1.map V.int)) (fun i H' => Same H1 H' ∧ H' D = some (.lst (((l.1 :: l.2.1.map toS).take i).map V.str))) ⟨same_new nD, upd_same⟩ (fun i H' _ z => .inl (.inl (z.1 _ _ eg))) (fun i u H2 H3 hi z y => ?_) (fun H2 z => ?_)⟩
    · obtain ⟨sm, eD⟩ := z
      obtain ⟨rfl, gv⟩ := y
      have sz : (((l.1 :: l.2.1.map toS).take i).map V.str).length + 1 ≤ sizeLine := by
        rw [List.length_map, List.length_take, lw]
        exact small1000 (Nat.le_trans (Nat.min_le_right _ _) (by omega))
      match i, gv with
      | 0, gv =>
        obtain rfl : u = .str l.1 := (Option.some.inj gv).symm
        refine ⟨rfl, _, rfl, .inr ⟨l.1, rfl, _, eD, sz, same_over sm nD, ?_⟩⟩
        rw [upd_same, take_strs (y := l.1) rfl]
      | i + 1, gv =>
        have gv' : (l.2.1.map V.int)[i]? = some u := gv
        obtain ⟨x, ex, rfl⟩ := mapGet gv'
        have hx := lp.2.1 x (List.mem_of_getElem? ex)
        refine ⟨rfl, _, rfl, .inl ⟨x, rfl, small_log hx.1 hx.2, _, eD, sz, same_over sm nD, ?_⟩⟩
        rw [upd_same, take_strs (i := i + 1) (y := toS x) (by show (l.2.1.map toS)[i]? = some (toS x); rw [List.getElem?_map, ex]; rfl)]
    obtain ⟨sm, eD⟩ := z
    rw [List.take_of_length_le (by rw [lw, List.length_cons, List.length_map]; exact Nat.le_refl _)] at eD
    have s2 := s1.trans sm
    refine ⟨.ref p, rfl, 1, rfl, p, _, -1, v, rfl, rfl, .inl (.inl (s2 _ _ ep)), at_last (V.str l.1 :: l.2.1.map V.int) v, v, l.2.2, rfl, hv.keep (.same s2), lp.2.2, fun H3 s3 => ⟨(show 1 ≤ sizeLine by decide), fun W nW => ?_⟩⟩
    have sW := same_new (o := HO.lst [V.str (wishT l.2.2)]) nW
    refine ⟨D, W, _, _, rfl, rfl, sW _ _ (s3 _ _ eD), upd_same, by rw [List.length_map, lw]; exact fits (by simp only [List.length_cons, List.length_nil]; omega), fun Z nZ => ?_⟩
    dsimp only [List.set]
    refine ⟨⟨_, rfl⟩, .ref Z, rfl, _, Z, letW l, rfl, rfl, .inl (.inl (.inl ?_)), Nat.le_trans (len_let lp) (by decide), q _ (((s2.trans s3).trans sW).trans (same_new nZ))⟩
    rw [upd_same]
    unfold letW
    rw [List.map_append]
    rfl
abbrev a_number_in : Stmt := topS 51
abbrev n_number_in : List Str := ["word"]
theorem sc_number_in : FnScope n_number_in ["word"] (defScope a_number_in) := ⟨rfl, rfl, rfl, by decide +kernel, rfl, by decide +kernel, by decide +kernel⟩
set_option maxHeartbeats 8000000 in
theorem ok_number_in {f fNu : Addr} {fd fdNu : FuncData} {k : Nat}  (F : Fun K "number_in" "number_in" a_number_in f fd) (Nu : Kn P w K mg base 1 "is_number" ["word"] spIsNum fNu fdNu)  (m_int : mg "int" = none) : FnOk P w K mg base CX0 (k + 2) f fd ["word"] spNumIn := by
  refine F.ok sc_number_in (fun vs H Q E h => ?_) (fun cdv A outer s H vs Q E hr h => ?_)
  · obtain ⟨i, rfl, _⟩ := h
    rfl
  · obtain ⟨i, rfl, h0, h1, q⟩ := h
    refine ⟨_, (pss_one (ps_ret (pe_ifExp (pt_val (pe_kn Nu hr (by omega) (pa_cons (pv 0) pa_nil))) (pe_callTy call_int_str (by rfl) m_int (by decide +kernel) (pa_cons (pv 0) pa_nil)) pe_non))), ?_⟩
    have hl := toS_len h0 h1
    refine ⟨_, rfl, toS i, rfl, by omega, true, congrArg V.bl (num_ok h0 h1), iteT ?_⟩
    exact ⟨_, rfl, _, i, rfl, int_toS h0 h1, by omega, q⟩
abbrev a_wish_in : Stmt := topS 52
abbrev n_wish_in : List Str := ["word", "number", "sign", "places", "place"]
theorem sc_wish_in : FnScope n_wish_in ["word"] (defScope a_wish_in) := ⟨rfl, rfl, rfl, by decide +kernel, rfl, by decide +kernel, by decide +kernel⟩
set_option maxHeartbeats 8000000 in
theorem ok_wish_in {f fNi : Addr} {fd fdNi : FuncData} {k : Nat} {t8 : Tok} (F : Fun K "wish_in" "wish_in" a_wish_in f fd) (Ni : Kn P w K mg base 2 "number_in" ["word"] spNumIn fNi fdNi) (gv8 : mg "NOTHING" = some (.str "-" t8)) (m_tuple : mg "tuple" = none) : FnOk P w K mg base CX0 (k + 3) f fd ["word"] spWishIn := by
  refine F.ok sc_wish_in (fun vs H Q E h => ?_) (fun cdv A outer s H vs Q E hr h => ?_)
  · obtain ⟨o, rfl, _⟩ := h
    rfl
  · obtain ⟨o, rfl, hw, q⟩ := h
    refine ⟨_, (pss_cons (ps_if (pt_cmpR op_eq (pv 0) (pe_glob (v := .str "-") rfl gv8 ⟨_, rfl⟩) (nomark _)) (pss_one (ps_ret pe_non)) pss_nil)
      (pss_cons (ps_asg (pe_partition (pv 0) pe_str) (pg_tup rfl (pgs_cons (pg_name (i := 1) sc_wish_in.nd rfl (.inl rfl)) (pgs_cons (pg_name (i := 2) sc_wish_in.nd rfl (.inl rfl)) (pgs_cons (pg_name (i := 3) sc_wish_in.nd rfl (.inl rfl)) pgs_nil)))))
      (pss_one (ps_ret (pe_tup (pa_cons (pe_kn Ni hr (by omega) (pa_cons (pv 1) pa_nil)) (pa_cons (pe_callTy call_tuple_of (by rfl) m_tuple (by decide +kernel) (pa_cons (
        pe_lc (own := [("place", 4)]) (g := (gName 4)) (tt := tYes) (te := (tCall spNumIn [] E0 (tCons (tVar 4) tNil))) rfl sc_wish_in.nd (pi_list (pe_split (pv 3) pe_str)) (blkOk_by (N := n_wish_in) (sc := defScope a_wish_in) (by decide +kernel))
          (fun _ _ _ _ _ => (pg_name (i := 4) sc_wish_in.nd rfl (.inl rfl) (hf := .inr rfl))) (fun _ _ _ _ _ => pts_nil) (fun _ _ _ _ _ => (pe_kn Ni hr (by omega) (pa_cons (pv 4) pa_nil)))) pa_nil)) pa_nil))))))), ?_⟩
    have hl := wish_len hw
    refine ⟨_, rfl, rfl, decide (wishT o = "-"), congrArg V.bl dstr, ?_⟩
    cases o with
    | none => exact iteT (q H .non (Same.refl H) rfl)
    | some w =>
    have hw' := hw w rfl
    rw [decide_eq_false (wish_ne hw')]
    refine iteF ⟨_, rfl, ⟨_, rfl⟩, _, "@", rfl, rfl, by decide +kernel, fits (by omega), fun T nT => ?_⟩
    rw [part_wish hw']
    obtain ⟨w1, w2, w3, w4, w5⟩ := hw'
    have hn : (0 : Int) ≤ w.1 := by omega
    have c5 := places_len w4 w5
    have sT := same_new (o := HO.tup [V.str (toS w.1), V.str "@", V.str (Txt.join "." (w.2.map toS))]) nT
    refine ⟨T, _, rfl, .inl (.inl upd_same), rfl, _, _, rfl, _, _, rfl, _, _, rfl, rfl, ?_⟩
    dsimp only [List.set]
    generalize upd H T (.tup [V.str (toS w.1), V.str "@", V.str (Txt.join "." (w.2.map toS))]) = H1 at sT ⊢
    refine ⟨_, rfl, w.1, rfl, hn, w2, _, rfl, ⟨_, rfl⟩, _, ".", rfl, rfl, by decide +kernel, fits (by omega), fun L nL => ?_⟩
    rw [split_places w3 w5]
    have s1 := sT.trans (same_new (o := .lst ((w.2.map toS).map V.str)) nL)
    have eL : (upd H1 L (.lst ((w.2.map toS).map V.str))) L = some (.lst ((w.2.map toS).map V.str)) := upd_same
    generalize upd H1 L (.lst ((w.2.map toS).map V.str)) = H2 at s1 eL ⊢
    refine ⟨L, rfl, ⟨_, .inl (.inl eL)⟩, fun D nD => lc_it (walk_list (xs := (w.2.map toS).map V.str)) (fun i H' => Same H2 H' ∧ H' D = some (.lst ((w.2.take i).map V.int))) ⟨same_new nD, upd_same⟩ (fun i H' _ p => .inl (.inl (p.1 _ _ eL))) (fun i v H3 H4 hi p y => ?_) (fun H' p => ?_)⟩
    · obtain ⟨sm, eD⟩ := p
      obtain ⟨rfl, gv⟩ := y
      obtain ⟨x, ex, rfl⟩ := mapGet gv
      obtain ⟨n, en, rfl⟩ := mapGet ex
      have hn := w5 n (List.mem_of_getElem? en)
      refine ⟨rfl, _, rfl, n, rfl, hn.1, hn.2, _, eD, by rw [List.length_map, List.length_take]; exact small1000 (Nat.le_trans (Nat.min_le_right _ _) (by omega)), same_over sm nD, ?_⟩
      rw [upd_same, List.take_add_one, en, List.map_append]
      rfl
    · obtain ⟨sm, eD⟩ := p
      rw [List.take_of_length_le (by rw [List.length_map, List.length_map]; exact Nat.le_refl _)] at eD
      refine ⟨D, _, rfl, .inl ⟨.inl (.inl eD), fun g ng => ⟨(show 2 ≤ sizeLine by decide), fun z nz => ?_⟩⟩⟩
      have sg := same_new (o := HO.tup (w.2.map V.int)) ng
      have sz := same_new (o := HO.tup [V.int w.1, V.ref g]) nz
      exact q _ (.ref z) (((s1.trans sm).trans sg).trans sz) ⟨z, g, rfl, upd_same, sz _ _ upd_same⟩
abbrev a_read_letter : Stmt := topS 53
abbrev n_read_letter : List Str := ["text", "words", "numbers", "letter", "word"]
theorem sc_read_letter : FnScope n_read_letter ["text"] (defScope a_read_letter) := ⟨rfl, rfl, rfl, by decide +kernel, rfl, by decide +kernel, by decide +kernel⟩
set_option maxHeartbeats 8000000 in
theorem ok_read_letter {f fNi fWn fIl : Addr} {fd fdNi fdWn fdIl : FuncData} {k : Nat}  (F : Fun K "read_letter" "read_letter" a_read_letter f fd) (Ni : Kn P w K mg base 2 "number_in" ["word"] spNumIn fNi fdNi) (Wn : Kn P w K mg base 3 "wish_in" ["word"] spWishIn fWn fdWn) (Il : Kn P w K mg base 4 "is_letter" ["thing"] (spLook letterD) fIl fdIl)  (m_isinstance : mg "isinstance" = none) (m_str : mg "str" = none) : FnOk P w K mg base CX0 (k + 5) f fd ["text"] spRdLet := by
  refine F.ok sc_read_letter (fun vs H Q E h => ?_) (fun cdv A outer s H vs Q E hr h => ?_)
  · obtain ⟨l, rfl, _⟩ := h
    rfl
  · obtain ⟨l, rfl, lp, q⟩ := h
    refine ⟨_, (pss_cons (ps_if (pt_not (pt_val (pe_callB call_isi (by rfl) m_isinstance (by decide +kernel) (pa_cons (pv 0) (pa_cons (pe_bltn (v := .ty "str") (u := .type "str") (by rfl) m_str (by decide +kernel) rfl) pa_nil))))) (pss_one (ps_never)) pss_nil)
      (pss_cons (ps_set (i := 1) sc_read_letter.nd rfl (.inl rfl) (pe_split (pv 0) pe_str))
      (pss_cons (ps_setLc (i := 2) (own := [("word", 4)]) (g := (gName 4)) (tt := tYes) (te := (tCall spNumIn [] E0 (tCons (tVar 4) tNil))) rfl sc_read_letter.nd rfl rfl (sw_true rfl rfl rfl (by decide +kernel)) (pi_list (pe_slice (r := rSlL K) sl_list (pv 1) (po_some pe_int) (po_some (pe_un un_neg pe_int)))) (blkOk_by (N := n_read_letter) (sc := defScope a_read_letter) (by decide +kernel))
          (fun _ _ _ _ _ => (pg_name (i := 4) sc_read_letter.nd rfl (.inl rfl) (hf := .inr rfl))) (fun _ _ _ _ _ => pts_nil) (fun _ _ _ _ _ => (pe_kn Ni hr (by omega) (pa_cons (pv 4) pa_nil))))
      (pss_cons (ps_set (i := 3) sc_read_letter.nd rfl (.inl rfl) (pe_tup (pa_cons (pe_ix ix_list (pv 1) pe_int (fun _ _ => rfl)) (StX.pa_star (pv 2) (pa_cons (pe_kn Wn hr (by omega) (pa_cons (pe_ix ix_list (pv 1) (pe_un un_neg pe_int) (fun _ _ => rfl)) pa_nil)) pa_nil)))))
      (pss_cons (ps_if (pt_not (pt_val (pe_kn Il hr (by omega) (pa_cons (pv 3) pa_nil)))) (pss_one (ps_never)) pss_nil)
      (pss_one (ps_ret (pv 3)))))))), ?_⟩
    have hl := let_len lp
    have lf := lp.few
    refine ⟨_, rfl, _, _, _, _, true, rfl, .ty "str", .base (.str _), kit_ty (by decide +kernel), true, rfl, iteF ?_⟩
    refine ⟨_, rfl, ⟨_, rfl⟩, letT l, " ", rfl, rfl, by decide +kernel, fits (by omega), fun L nL => ?_⟩
    rw [split_let lp]
    have eV : (letW l).map V.str = (V.str l.1 :: (l.2.1.map toS).map V.str) ++ [V.str (wishT l.2.2)] := by
      unfold letW
      rw [List.map_append]
      rfl
    rw [eV]
    have s1 := same_new (o := .lst ((V.str l.1 :: (l.2.1.map toS).map V.str) ++ [V.str (wishT l.2.2)])) nL
    have eL : (upd H L (.lst ((V.str l.1 :: (l.2.1.map toS).map V.str) ++ [V.str (wishT l.2.2)]))) L = some (.lst ((V.str l.1 :: (l.2.1.map toS).map V.str) ++ [V.str (wishT l.2.2)])) := upd_same
    generalize upd H L (.lst ((V.str l.1 :: (l.2.1.map toS).map V.str) ++ [V.str (wishT l.2.2)])) = H1 at s1 eL ⊢
    dsimp only [List.set]
    refine ⟨.ref L, rfl, 1, rfl, 1, rfl, -1, rfl, L, _, rfl, .inl (.inl eL), fun S nS => ?_⟩
    rw [cut_mid]
    have s2 := same_new (o := .lst ((l.2.1.map toS).map V.str)) nS
    have eS : (upd H1 S (.lst ((l.2.1.map toS).map V.str))) S = some (.lst ((l.2.1.map toS).map V.str)) := upd_same
    have eL2 := s2 _ _ eL
    have s02 := s1.trans s2
    generalize upd H1 S (.lst ((l.2.1.map toS).map V.str)) = H2 at s2 eS eL2 s02 ⊢
    refine ⟨S, rfl, ⟨_, .inl (.inl eS)⟩, fun D nD => lc_it (walk_list (xs := (l.2.1.map toS).map V.str)) (fun i H' => Same H2 H' ∧ H' D = some (.lst ((l.2.1.take i).map V.int))) ⟨same_new nD, upd_same⟩ (fun i H' _ p => .inl (.inl (p.1 _ _ eS))) (fun i v H3 H4 hi p y => ?_) (fun H3 p => ?_)⟩
    · obtain ⟨sm, eD⟩ := p
      obtain ⟨rfl, gv⟩ := y
      obtain ⟨x, ex, rfl⟩ := mapGet gv
      obtain ⟨n, en, rfl⟩ := mapGet ex
      have hn := lp.2.1 n (List.mem_of_getElem? en)
      refine ⟨rfl, _, rfl, n, rfl, hn.1, hn.2, _, eD, by rw [List.length_map, List.length_take]; exact small1000 (Nat.le_trans (Nat.min_le_right _ _) (by omega)), same_over sm nD, ?_⟩
      rw [upd_same, List.take_add_one, en, List.map_append]
      rfl
    obtain ⟨sm, eD⟩ := p
    rw [List.take_of_length_le (by rw [List.length_map, List.length_map]; exact Nat.le_refl _)] at eD
    have eL3 := sm _ _ eL2
    have s03 := s02.trans sm
    dsimp only [List.set]
    refine ⟨.ref L, rfl, L, _, 0, .str l.1, rfl, rfl, .inl (.inl eL3), atI_nat (j := 0) rfl, .ref D, rfl, D, _, rfl, .inr (.inl (.inl eD)), .ref L, rfl, 1, rfl, L, _, -1, .str (wishT l.2.2), rfl, rfl, .inl (.inl eL3), at_last _ _, l.2.2, rfl, lp.2.2, fun H5 v s5 hv => ⟨?_, fun T nT => ?_⟩⟩
    · simp only [List.length_append, List.length_cons, List.length_nil, List.length_map]
      exact fits (by omega)
    have sT := same_new (o := HO.tup (V.str l.1 :: (l.2.1.map V.int ++ [v]))) nT
    have eT : LetAt (upd H5 T (.tup (V.str l.1 :: (l.2.1.map V.int ++ [v])))) T l := ⟨v, upd_same, hv.keep (.same sT)⟩
    have s05 := (s03.trans s5).trans sT
    dsimp only [List.set]
    refine ⟨_, rfl, 0, .ref T, _, rfl, da_let (n := 0) eT, fun H6 s6 => ⟨true, congrArg V.bl (let_isD lp), iteF ?_⟩⟩
    exact ⟨_, rfl, q H6 T (s05.trans s6) (eT.keep (.same s6))⟩
end
end K70

set_option Elab.async false
set_option linter.all false
set_option maxRecDepth 100000
namespace K70
open PySem PySem.Spec PyProof.Rows L2 NB

/-! ### the law's own texts and draws -/
def spLSide : Sp := fun vs H Q _ => ∃ (p : Addr) (sd : Sd), vs = [.ref p] ∧ SideAt H p sd ∧ SdP sd ∧ Q (.str (sideT sd)) H
def spLText : Sp := fun vs H Q _ => ∃ (t R : Addr) (tops : List Int) (rs : List Rl), vs = [.ref t, .ref R] ∧ H t = some (.tup (tops.map V.int)) ∧ RulesAt H R rs ∧ Pl tops ∧ tops.length ≤ 12 ∧ rs.length ≤ 40 ∧ (∀ r ∈ rs, RlP r) ∧ ∀ H', Same H H' → Q (.str (planT tops rs)) H'
def spAnyS : Sp := fun vs H Q _ => ∃ (p t : Addr) (tops : List Int) (c : Nat), vs = [.ref p, .ref t] ∧ PotAt H p c ∧ c < 800000 ∧ H t = some (.tup (tops.map V.int)) ∧ 1 ≤ tops.length ∧ tops.length ≤ 12 ∧ Pl tops ∧ ∀ H' g sd, But p H H' → PotAt H' p (c + 3) → SideAt H' g sd → SideOk tops sd → Q (.ref g) H'
def spAnyR : Sp := fun vs H Q _ => ∃ (p t : Addr) (tops : List Int) (n c : Nat), vs = [.ref p, .ref t, .int (n : Int)] ∧ PotAt H p c ∧ c < 700000 ∧ H t = some (.tup (tops.map V.int)) ∧ 1 ≤ tops.length ∧ tops.length ≤ 12 ∧ Pl tops ∧ n ≤ 40 ∧ ∀ H' g rs, But p H H' → PotAt H' p (c + 6 * n) → RulesAt H' g rs → rs.length = n → (∀ q ∈ rs, RuleOk tops q) → Q (.ref g) H'
section
variable {P : Program} {w : World} {K : PySem.W.Frag} {mg : Str → Option Value} {base : Heap}
abbrev a__law_side_text : Stmt := topS 64
abbrev n__law_side_text : List Str := ["_law_side"]
theorem sc__law_side_text : FnScope n__law_side_text ["_law_side"] (defScope a__law_side_text) := ⟨rfl, rfl, rfl, by decide +kernel, rfl, by decide +kernel, by decide +kernel⟩
set_option maxHeartbeats 8000000 in
theorem ok__law_side_text {f  : Addr} {fd  : FuncData} {k : Nat}  (F : Fun K "_law_side_text" "_law_side_text" a__law_side_text f fd)   (m_str : mg "str" = none) : FnOk P w K mg base CX0 (k + 1) f fd ["_law_side"] spLSide := by
  refine F.ok sc__law_side_text (fun vs H Q E h => ?_) (fun cdv A outer s H vs Q E hr h => ?_)
  · obtain ⟨p, sd, rfl, _⟩ := h
    rfl
  · obtain ⟨p, sd, rfl, es, hs, q⟩ := h
    refine ⟨_, (pss_one (ps_ret (pe_op op_add_str (pe_op op_add_str (pe_op op_add_str (pe_op op_add_str (pe_callTy call_str_int (by rfl) m_str (by decide +kernel) (pa_cons (pe_ix ix_tup (pv 0) pe_int (fun _ _ => rfl)) pa_nil)) pe_str) (pe_ix ix_tup (pv 0) pe_int (fun _ _ => rfl))) pe_str) (pe_callTy call_str_int (by rfl) m_str (by decide +kernel) (pa_cons (pe_ix ix_tup (pv 0) pe_int (fun _ _ => rfl)) pa_nil))))), ?_⟩
    have a1 : (Str.ofString (toString (sd.1 : Int))).length ≤ 30 := toS_len hs.thing.1 hs.thing.2
    have a2 : (Str.ofString (toString sd.2.2)).length ≤ 30 := toS_len hs.2.1 hs.2.2
    have a3 := len_word sd.2.1
    have a4 : (" " : Str).length = 1 := by decide +kernel
    refine ⟨.ref p, rfl, p, _, 0, _, rfl, rfl, .inl (.inl es), atI_nat (j := 0) rfl, _, rfl, small_log hs.thing.1 hs.thing.2, _, _, rfl, rfl, fits (by omega), ?_⟩
    refine ⟨.ref p, rfl, p, _, 1, _, rfl, rfl, .inl (.inl es), atI_nat (j := 1) rfl, _, _, rfl, rfl, fits (by simp only [len_app]; omega), _, _, rfl, rfl, fits (by simp only [len_app]; omega), ?_⟩
    exact ⟨.ref p, rfl, p, _, 2, _, rfl, rfl, .inl (.inl es), atI_nat (j := 2) rfl, _, rfl, small_log hs.2.1 hs.2.2, _, _, rfl, rfl, fits (by simp only [len_app]; omega), q⟩
abbrev a__law_any_side : Stmt := topS 60
abbrev n__law_any_side : List Str := ["_law_pot_here", "_law_tops", "_law_thing"]
theorem sc__law_any_side : FnScope n__law_any_side ["_law_pot_here", "_law_tops"] (defScope a__law_any_side) := ⟨rfl, rfl, rfl, by decide +kernel, rfl, by decide +kernel, by decide +kernel⟩
set_option maxHeartbeats 8000000 in
theorem ok__law_any_side {f fTk fOf : Addr} {fd fdTk fdOf : FuncData} {k : Nat}  (F : Fun K "_law_any_side" "_law_any_side" a__law_any_side f fd) (Tk : Kn P w K mg base 1 "_law_take" ["_law_pot_here", "_law_many"] spTake fTk fdTk) (Of : Kn P w K mg base 2 "_law_of" ["_law_pot_here", "_law_some"] (spOf K) fOf fdOf)  (m_len : mg "len" = none) : FnOk P w K mg base CX0 (k + 3) f fd ["_law_pot_here", "_law_tops"] spAnyS := by
  refine F.ok sc__law_any_side (fun vs H Q E h => ?_) (fun cdv A outer s H vs Q E hr h => ?_)
  · obtain ⟨p, t, tops, c, rfl, _⟩ := h
    rfl
  · obtain ⟨p, t, tops, c, rfl, pp, hc, et, l1, l12, pl, q⟩ := h
    refine ⟨_, (pss_cons (ps_set (i := 2) sc__law_any_side.nd rfl (.inl rfl) (pe_kn Tk hr (by omega) (pa_cons (pv 0) (pa_cons (pe_callB call_len_seq (by rfl) m_len (by decide +kernel) (pa_cons (pv 1) pa_nil)) pa_nil))))
      (pss_one (ps_ret (pe_tup (pa_cons (pv 2) (pa_cons (pe_kn Of hr (by omega) (pa_cons (pv 0) (pa_cons (pe_lst (pa_cons pe_str (pa_cons pe_str pa_nil))) pa_nil))) (pa_cons (pe_kn Tk hr (by omega) (pa_cons (pv 0) (pa_cons (pe_op op_add (pe_ix ix_tup (pv 1) (pv 2) (fun _ _ => rfl)) pe_int) pa_nil))) pa_nil))))))), ?_⟩
    have big : ∀ n : Nat, n ≤ 12 → (n : Int) < 2 ^ 200 := fun n h => Int.lt_of_le_of_lt (show (n : Int) ≤ 12 by omega) (by decide)
    refine ⟨.ref p, rfl, .ref t, rfl, t, _, rfl, .inr (.inl (.inl et)), p, _, c, rfl, pp, ?_, ?_, by omega, fun d H1 b1 p1 d0 d1 => ?_⟩
    · rw [List.length_map]; omega
    · rw [List.length_map]; exact big _ l12
    rw [List.length_map] at d1
    obtain ⟨n, rfl⟩ := nat_of d0
    have hn : n < tops.length := by omega
    have htp := pl tops[n] (List.getElem_mem hn)
    refine ⟨_, rfl, .ref p, rfl, (show 2 ≤ sizeLine by decide), fun m nm => ?_⟩
    have nmp : m ≠ p := p1.ne nm
    have et1 := (Keep.but b1 pp).tup et
    refine ⟨p, m, _, c + 1, rfl, pot_upd p1 nmp, nmp, .inl (.inl (.inl upd_same)), (show 1 ≤ 2 by decide), (show 2 ≤ 1000000 by decide), by omega, fun x H2 hx b2 p2 => ?_⟩
    have sm := same_new (o := HO.lst [V.str "from", V.str "to"]) nm
    have et2 := (Keep.but b2 (pot_upd p1 nmp)).tup (sm _ _ et1)
    obtain ⟨b, rfl⟩ : ∃ b, x = .str (word b) := by
      simp only [List.mem_cons, List.not_mem_nil, or_false] at hx
      rcases hx with rfl | rfl
      · exact ⟨true, rfl⟩
      · exact ⟨false, rfl⟩
    refine ⟨.ref p, rfl, .ref t, rfl, _, rfl, t, _, (n : Int), .int tops[n], rfl, rfl, .inl (.inl et2), atI_nat (by rw [List.getElem?_map, List.getElem?_eq_getElem hn]; rfl), tops[n], 1, rfl, rfl, p, _, c + 2, rfl, p2, by omega, Int.lt_of_le_of_lt (show tops[n] + 1 ≤ 10 ^ 30 by omega) (by decide), by omega, fun e H3 b3 p3 e0 e1 => ?_⟩
    refine ⟨(show 3 ≤ sizeLine by decide), fun g ng => ?_⟩
    refine q _ g (n, b, e) (((b1.trans (But.of sm)).trans (b2.trans b3)).trans (But.of (same_new ng))) (pot_upd p3 (p3.ne ng)) upd_same ⟨tops[n], List.getElem?_eq_getElem hn, e0, (by show e ≤ tops[n]; omega)⟩
end

/-! ### what the law draws and writes -/
def spLWish : Sp := fun vs H Q _ => ∃ (p : Addr) (b : Bool) (c : Nat), vs = [.ref p, .bl b] ∧ PotAt H p c ∧ c < 700000 ∧ ∀ H' v o, But p H H' → PotAt H' p (c + 40) → WV H' v o → (∀ w, o = some w → WiP w) → (b = false → o ≠ none) → Q v H'
def spLLet : Sp := fun vs H Q _ => ∃ (p : Addr) (c : Nat), vs = [.ref p] ∧ PotAt H p c ∧ c < 600000 ∧ ∀ H' g l, But p H H' → PotAt H' p (c + 50) → LetAt H' g l → LetP l → Q (.ref g) H'
def spLJoin : Sp := fun vs H Q _ => ∃ (g : Addr) (xs : List Int) (b : Str), vs = [.ref g, .str b] ∧ H g = some (.tup (xs.map V.int)) ∧ Pl xs ∧ xs.length ≤ 12 ∧ b.length ≤ 5 ∧ ∀ H', Same H H' → Q (.str (Txt.join b (xs.map toS))) H'
def spLWT : Sp := fun vs H Q _ => ∃ (v : V) (o : Option Wi), vs = [v] ∧ WV H v o ∧ (∀ w, o = some w → WiP w) ∧ ∀ H', Same H H' → Q (.str (wishT o)) H'
def spAlike (K : PySem.W.Frag) : Sp := fun vs H Q _ => ∃ (a b : Addr) (d : PyData), vs = [.ref a, .ref b] ∧ Dp K H (.ref a) d ∧ Dp K H (.ref b) d ∧ Showable d ∧ Q (.bl true) H
theorem cut_midT {K : PySem.W.Frag} {H : Hp} {p : Addr} {u : V} {xs : List V} {v : V} {Q : VK} (h : H p = some (.tup (u :: (xs ++ [v])))) (q : ∀ g H', Same H H' → H' g = some (.tup xs) → Q (.ref g) H') : rSlA K (.ref p) (some 1) (some (-1)) H Q := by
  have h' : H p = some (.tup ((u :: xs) ++ [v])) := h
  refine ⟨p, _, rfl, .inl (.inl h'), fun w => ?_, fun _ g ng => ?_⟩
  · have e1 : HT.sIx ((u :: xs) ++ [v]).length 0 (some (1 : Int)) = 1 := by
      have := HT.sIx_nat ((u :: xs) ++ [v]).length 0 1
      have e : ((1 : Nat) : Int) = 1 := rfl
      rw [e] at this
      rw [this]
      simp
    have w1 := w.1
    rw [e1] at w1
    cases w1
  · refine q g _ (same_new ng) ?_
    rw [upd_same, cut_mid]
section
variable {P : Program} {w : World} {K : PySem.W.Frag} {mg : Str → Option Value} {base : Heap}
abbrev a__law_wish : Stmt := topS 61
abbrev n__law_wish : List Str := ["_law_pot_here", "_law_some", "_law_spots", "_law_turn"]
theorem sc__law_wish : FnScope n__law_wish ["_law_pot_here", "_law_some"] (defScope a__law_wish) := ⟨rfl, rfl, rfl, by decide +kernel, rfl, by decide +kernel, by decide +kernel⟩
set_option maxHeartbeats 8000000 in
theorem ok__law_wish {f fTk fOf : Addr} {fd fdTk fdOf : FuncData} {k : Nat}  (F : Fun K "_law_wish" "_law_wish" a__law_wish f fd) (Tk : Kn P w K mg base 1 "_law_take" ["_law_pot_here", "_law_many"] spTake fTk fdTk) (Of : Kn P w K mg base 2 "_law_of" ["_law_pot_here", "_law_some"] (spOf K) fOf fdOf)  (m_range : mg "range" = none) (m_tuple : mg "tuple" = none) : FnOk P w K mg base CX0 (k + 3) f fd ["_law_pot_here", "_law_some"] spLWish := by
  refine F.ok sc__law_wish (fun vs H Q E h => ?_) (fun cdv A outer s H vs Q E hr h => ?_)
  · obtain ⟨p, b, c, rfl, _⟩ := h
    rfl
  · obtain ⟨p, b, c, rfl, pp, hc, q⟩ := h
    refine ⟨_, (C8.pss_cut (ps_if (PW.pt (pw_and (pt_val (pv 1)) (pw_and1 (pt_cmpR op_eq (pe_kn Tk hr (by omega) (pa_cons (pv 0) (pa_cons pe_int pa_nil))) pe_int (nomark _))))) (pss_one (ps_ret pe_non)) pss_nil)
      (pss_cons (ps_setLc (i := 2) (own := [("_law_turn", 3)]) (g := (gName 3)) (tt := tYes) (te := (tCall (spOf K) [] E0 (tCons (tVar 0) (tCons (tLst (tCons (tC (.int 0)) (tCons (tC (.int 7)) (tCons (tCall spTake [] E0 (tCons (tVar 0) (tCons (tC (.int 100)) tNil))) (tCons (tOp (rI0 fun i j => .int (i - j)) (tOp (rI CPow fun i j => .int (i ^ j.toNat)) (tC (.int 10)) (tC (.int 30))) (tC (.int 1))) tNil))))) tNil)))) rfl sc__law_wish.nd rfl rfl (sw_true rfl rfl rfl (by decide +kernel)) (pi_range1 (by rfl) m_range (pa_cons (pe_op op_add pe_int (pe_kn Tk hr (by omega) (pa_cons (pv 0) (pa_cons pe_int pa_nil)))) pa_nil)) (blkOk_by (N := n__law_wish) (sc := defScope a__law_wish) (by decide +kernel))
          (fun _ _ _ _ _ => (pg_name (i := 3) sc__law_wish.nd rfl (.inl rfl) (hf := .inr rfl))) (fun _ _ _ _ _ => pts_nil) (fun _ _ _ _ _ => (pe_kn Of hr (by omega) (pa_cons (pv 0) (pa_cons (pe_lst (pa_cons pe_int (pa_cons pe_int (pa_cons (pe_kn Tk hr (by omega) (pa_cons (pv 0) (pa_cons pe_int pa_nil))) (pa_cons (pe_op (r := rI0 fun i j => .int (i - j)) op_sub (pe_op (r := rI CPow fun i j => .int (i ^ j.toNat)) op_pow pe_int pe_int) pe_int) pa_nil))))) pa_nil)))))
      (pss_one (ps_ret (pe_tup (pa_cons (pe_kn Of hr (by omega) (pa_cons (pv 0) (pa_cons (pe_lst (pa_cons pe_int (pa_cons (pe_op op_add pe_int (pe_kn Tk hr (by omega) (pa_cons (pv 0) (pa_cons pe_int pa_nil)))) (pa_cons (pe_op op_sub (pe_op op_pow pe_int pe_int) pe_int) pa_nil)))) pa_nil))) (pa_cons (pe_callTy call_tuple_of (by rfl) m_tuple (by decide +kernel) (pa_cons (pv 2) pa_nil)) pa_nil))))))), ?_⟩
    have big : (10 : Int) ^ (30 : Int).toNat - 1 = 10 ^ 30 - 1 := by decide
    refine ⟨fun σ H' => σ = [some (.ref p), some (.bl b), none, none] ∧ But p H H' ∧ PotAt H' p (c + 1), ?_, fun σ H1 y => ?_⟩
    · cases b with
      | false => exact ⟨_, rfl, false, rfl, iteF ⟨rfl, fun _ _ _ e => e, pp.mono (by omega)⟩⟩
      | true =>
        refine ⟨_, rfl, true, rfl, iteT ⟨.ref p, rfl, p, 4, c, rfl, pp, by decide, by decide, by omega, fun d H1 b1 p1 _ _ => ⟨rfl, _, rfl, ite2 (fun _ => ?_) (fun _ => ?_)⟩⟩⟩
        · exact q H1 .non none b1 (p1.mono (by omega)) rfl (fun w h => by cases h) (fun h => by cases h)
        · exact ⟨rfl, b1, p1⟩
    obtain ⟨rfl, b1, p1⟩ := y
    refine ⟨.ref p, rfl, p, 12, _, rfl, p1, by decide, by decide, by omega, fun d H2 b2 p2 d0 d1 => ?_⟩
    have b02 := b1.trans b2
    refine ⟨1, d, rfl, rfl, _, rfl, by omega, by omega, fun D nD => lc_it walk_range (fun i H' => But p H H' ∧ PotAt H' p (c + 2 + 2 * i) ∧ ∃ xs : List Int, H' D = some (.lst (xs.map V.int)) ∧ xs.length = i ∧ Pl xs) ⟨but_new b02 (b02.free (p2.ne nD) nD), pot_upd (p2.mono (by omega)) (p2.ne nD), [], upd_same, rfl, fun _ h => absurd h List.not_mem_nil⟩ (fun _ _ _ _ => trivial) (fun i v H3 H4 hi z y => ?_) (fun H3 z => ?_)⟩
    · obtain ⟨b3, p3, xs, eD, lx, pl⟩ := z
      obtain ⟨rfl, rfl⟩ := y
      have hi' : i < 12 := by omega
      have nDp : D ≠ p := p2.ne nD
      refine ⟨rfl, .ref p, rfl, .ref p, rfl, p, 100, _, rfl, p3, by decide, by decide, by omega, fun e H5 b5 p5 e0 e1 => ⟨10, 30, rfl, rfl, ⟨by decide, by decide, by decide⟩, _, 1, rfl, rfl, (show 4 ≤ sizeLine by decide), fun m nm => ?_⟩⟩
      have nmp : m ≠ p := p5.ne nm
      have sm := same_new (o := HO.lst [V.int 0, V.int 7, V.int e, V.int (10 ^ (30 : Int).toNat - 1)]) nm
      refine ⟨p, m, _, _, rfl, pot_upd p5 nmp, nmp, .inl (.inl (.inl upd_same)), (show 1 ≤ 4 by decide), (show 4 ≤ 1000000 by decide), by omega, fun x H6 hx b6 p6 => ?_⟩
      obtain ⟨n, rfl, n0, n1⟩ : ∃ n : Int, x = .int n ∧ 0 ≤ n ∧ n < 10 ^ 30 := by
        simp only [List.mem_cons, List.not_mem_nil, or_false] at hx
        rcases hx with h | h | h | h
        · exact ⟨_, h, by decide, by decide⟩
        · exact ⟨_, h, by decide, by decide⟩
        · exact ⟨_, h, e0, Int.lt_of_lt_of_le e1 (by decide)⟩
        · exact ⟨_, h, by rw [big]; decide, by rw [big]; decide⟩
      have eD6 : H6 D = some (.lst (xs.map V.int)) := b6 _ _ nDp (sm _ _ (b5 _ _ nDp eD))
      refine ⟨_, eD6, by rw [List.length_map, lx]; exact small1000 (by omega), ?_, pot_upd (p6.mono (by omega)) nDp, xs ++ [n], by rw [upd_same, List.map_append]; rfl, by rw [List.length_append, lx]; rfl, pl.snoc n0 n1⟩
      have b36 : But p H H6 := b3.trans (b5.trans ((But.of sm).trans b6))
      intro bb o ne e
      have nb : bb ≠ D := fun z => by
        subst z
        have e' := b02 _ _ ne e
        rw [nD] at e'
        cases e'
      rw [upd_ne nb]
      exact b36 _ _ ne e
    · obtain ⟨b3, p3, xs, eD, lx, pl⟩ := z
      have lx' : 1 ≤ xs.length ∧ xs.length ≤ 12 := by omega
      have nDp : D ≠ p := p2.ne nD
      dsimp only [List.set]
      refine ⟨.ref p, rfl, .ref p, rfl, p, 60, _, rfl, p3.mono (d := c + 26) (by omega), by decide, by decide, by omega, fun e H5 b5 p5 e0 e1 => ⟨1, e, rfl, rfl, 10, 30, rfl, rfl, ⟨by decide, by decide, by decide⟩, _, 1, rfl, rfl, (show 3 ≤ sizeLine by decide), fun m nm => ?_⟩⟩
      have nmp : m ≠ p := p5.ne nm
      have sm := same_new (o := HO.lst [V.int 1, V.int (1 + e), V.int (10 ^ (30 : Int).toNat - 1)]) nm
      refine ⟨p, m, _, _, rfl, pot_upd p5 nmp, nmp, .inl (.inl (.inl upd_same)), (show 1 ≤ 3 by decide), (show 3 ≤ 1000000 by decide), by omega, fun x H6 hx b6 p6 => ?_⟩
      obtain ⟨n, rfl, n0, n1⟩ : ∃ n : Int, x = .int n ∧ 1 ≤ n ∧ n < 10 ^ 30 := by
        simp only [List.mem_cons, List.not_mem_nil, or_false] at hx
        rcases hx with h | h | h
        · exact ⟨_, h, by decide, by decide⟩
        · exact ⟨_, h, by omega, Int.lt_of_lt_of_le (show 1 + e < 100 by omega) (by decide)⟩
        · exact ⟨_, h, by rw [big]; decide, by rw [big]; decide⟩
      have eD6 : H6 D = some (.lst (xs.map V.int)) := b6 _ _ nDp (sm _ _ (b5 _ _ nDp eD))
      have b06 : But p H H6 := b3.trans (b5.trans ((But.of sm).trans b6))
      refine ⟨_, rfl, D, _, rfl, .inl ⟨.inl (.inl eD6), fun g ng => ⟨(show 2 ≤ sizeLine by decide), fun z nz => ?_⟩⟩⟩
      have sg := same_new (o := HO.tup (xs.map V.int)) ng
      have sz := same_new (o := HO.tup [V.int n, V.ref g]) nz
      have p7 := (p6.keep sg).keep sz
      refine q _ (.ref z) (some (n, xs)) (b06.trans (But.of (sg.trans sz))) (p7.mono (by omega)) ⟨z, g, rfl, upd_same, sz _ _ upd_same⟩ (fun w hw => ?_) (fun _ h => by cases h)
      obtain rfl := (Option.some.inj hw).symm
      exact ⟨n0, n1, fun z => by
        have z' : xs = [] := z
        rw [z'] at lx'
        exact absurd lx'.1 (by decide), lx'.2, pl⟩
abbrev a__law_letter : Stmt := topS 62
abbrev n__law_letter : List Str := ["_law_pot_here", "_law_word", "_law_number"]
theorem sc__law_letter : FnScope n__law_letter ["_law_pot_here"] (defScope a__law_letter) := ⟨rfl, rfl, rfl, by decide +kernel, rfl, by decide +kernel, by decide +kernel⟩
set_option maxHeartbeats 8000000 in
theorem ok__law_letter {f fTk fOf fWi1 : Addr} {fd fdTk fdOf fdWi1 : FuncData} {k : Nat}  (F : Fun K "_law_letter" "_law_letter" a__law_letter f fd) (Tk : Kn P w K mg base 1 "_law_take" ["_law_pot_here", "_law_many"] spTake fTk fdTk) (Of : Kn P w K mg base 2 "_law_of" ["_law_pot_here", "_law_some"] (spOf K) fOf fdOf) (Wi1 : Kn P w K mg base 3 "_law_wish" ["_law_pot_here", "_law_some"] spLWish fWi1 fdWi1)   : FnOk P w K mg base CX0 (k + 4) f fd ["_law_pot_here"] spLLet := by
  refine F.ok sc__law_letter (fun vs H Q E h => ?_) (fun cdv A outer s H vs Q E hr h => ?_)
  · obtain ⟨p, c, rfl, _⟩ := h
    rfl
  · obtain ⟨p, c, rfl, pp, hc, q⟩ := h
    refine ⟨_, (pss_cons (ps_set (i := 1) sc__law_letter.nd rfl (.inl rfl) (pe_kn Of hr (by omega) (pa_cons (pv 0) (pa_cons (pe_lst (pa_cons pe_str (pa_cons pe_str (pa_cons pe_str pa_nil)))) pa_nil))))
      (pss_cons (ps_if (pt_cmpR op_eq (pv 1) pe_str (nomark _)) (pss_one (ps_ret (pe_tup (pa_cons pe_str (pa_cons (pe_kn Wi1 hr (by omega) (pa_cons (pv 0) (pa_cons pe_bl pa_nil))) pa_nil))))) pss_nil)
      (pss_cons (ps_set (i := 2) sc__law_letter.nd rfl (.inl rfl) (pe_kn Of hr (by omega) (pa_cons (pv 0) (pa_cons (pe_lst (pa_cons pe_int (pa_cons (pe_kn Tk hr (by omega) (pa_cons (pv 0) (pa_cons pe_int pa_nil))) (pa_cons (pe_kn Tk hr (by omega) (pa_cons (pv 0) (pa_cons (pe_op op_pow pe_int pe_int) pa_nil))) (pa_cons (pe_op op_sub (pe_op op_pow pe_int pe_int) pe_int) pa_nil))))) pa_nil))))
      (pss_one (ps_ret (pe_tup (pa_cons (pv 1) (pa_cons (pv 2) (pa_cons (pe_kn Tk hr (by omega) (pa_cons (pv 0) (pa_cons pe_int pa_nil))) (pa_cons (pe_kn Wi1 hr (by omega) (pa_cons (pv 0) (pa_cons pe_bl pa_nil))) pa_nil)))))))))), ?_⟩
    have big : (10 : Int) ^ (30 : Int).toNat - 1 = 10 ^ 30 - 1 := by decide
    refine ⟨.ref p, rfl, (show 3 ≤ sizeLine by decide), fun m nm => ?_⟩
    have nmp : m ≠ p := pp.ne nm
    have sm := same_new (o := HO.lst [V.str "ask", V.str "leave", V.str "word"]) nm
    refine ⟨p, m, _, c, rfl, pot_upd pp nmp, nmp, .inl (.inl (.inl upd_same)), (show 1 ≤ 3 by decide), (show 3 ≤ 1000000 by decide), by omega, fun x H1 hx b1 p1 => ?_⟩
    have b01 : But p H H1 := (But.of sm).trans b1
    obtain ⟨a, rfl, ha⟩ : ∃ a : Str, x = .str a ∧ (a = "ask" ∨ a = "leave" ∨ a = "word") := by
      simp only [List.mem_cons, List.not_mem_nil, or_false] at hx
      rcases hx with h | h | h
      · exact ⟨_, h, .inl rfl⟩
      · exact ⟨_, h, .inr (.inl rfl)⟩
      · exact ⟨_, h, .inr (.inr rfl)⟩
    dsimp only [List.set]
    refine ⟨_, rfl, rfl, decide (a = "word"), congrArg V.bl dstr, ?_⟩
    by_cases e : a = "word"
    · rw [decide_eq_true e]
      refine iteT ⟨.ref p, rfl, p, false, _, rfl, p1, by omega, fun H3 v o b3 p3 hv hw hn => ⟨(show 2 ≤ sizeLine by decide), fun T nT => ?_⟩⟩
      have sT := same_new (o := HO.tup [V.str "word", v]) nT
      exact q _ T ("word", [], o) ((b01.trans b3).trans (But.of sT)) ((p3.keep sT).mono (by omega)) ⟨v, upd_same, hv.keep (.same sT)⟩ ⟨.inr ⟨rfl, rfl, hn rfl⟩, fun _ h => absurd h List.not_mem_nil, hw⟩
    rw [decide_eq_false e]
    have ha' : a = "ask" ∨ a = "leave" := by
      rcases ha with h | h | h
      · exact .inl h
      · exact .inr h
      · exact absurd h e
    refine iteF ⟨.ref p, rfl, .ref p, rfl, p, 40, _, rfl, p1, by decide, by decide, by omega, fun d H2 b2 p2 d0 d1 => ⟨.ref p, rfl, 10, 15, rfl, rfl, ⟨by decide, by decide, by decide⟩, p, _, _, rfl, p2, by rw [e15]; decide, by rw [e15]; decide, by omega, fun d' H3 b3 p3 f0 f1 => ⟨10, 30, rfl, rfl, ⟨by decide, by decide, by decide⟩, _, 1, rfl, rfl, (show 4 ≤ sizeLine by decide), fun m2 nm2 => ?_⟩⟩⟩
    rw [e15] at f1
    have nm2p : m2 ≠ p := p3.ne nm2
    have sm2 := same_new (o := HO.lst [V.int 0, V.int d, V.int d', V.int (10 ^ (30 : Int).toNat - 1)]) nm2
    refine ⟨p, m2, _, _, rfl, pot_upd p3 nm2p, nm2p, .inl (.inl (.inl upd_same)), (show 1 ≤ 4 by decide), (show 4 ≤ 1000000 by decide), by omega, fun x H4 hx b4 p4 => ?_⟩
    obtain ⟨n, rfl, n0, n1⟩ : ∃ n : Int, x = .int n ∧ 0 ≤ n ∧ n < 10 ^ 30 := by
      simp only [List.mem_cons, List.not_mem_nil, or_false] at hx
      rcases hx with h | h | h | h
      · exact ⟨_, h, by decide, by decide⟩
      · exact ⟨_, h, d0, Int.lt_of_lt_of_le d1 (by decide)⟩
      · exact ⟨_, h, f0, Int.lt_of_lt_of_le f1 (by decide)⟩
      · exact ⟨_, h, by rw [big]; decide, by rw [big]; decide⟩
    have b04 : But p H H4 := b01.trans (b2.trans (b3.trans ((But.of sm2).trans b4)))
    dsimp only [List.set]
    refine ⟨_, rfl, _, rfl, .ref p, rfl, p, 1000, _, rfl, p4, by decide, by decide, by omega, fun k H5 b5 p5 k0 k1 => ⟨.ref p, rfl, p, true, _, rfl, p5, by omega, fun H6 v o b6 p6 hv hw hn => ⟨(show 4 ≤ sizeLine by decide), fun T nT => ?_⟩⟩⟩
    have sT := same_new (o := HO.tup [V.str a, V.int n, V.int k, v]) nT
    refine q _ T (a, [n, k], o) (((b04.trans b5).trans b6).trans (But.of sT)) ((p6.keep sT).mono (by omega)) ⟨v, upd_same, hv.keep (.same sT)⟩ ⟨.inl ⟨ha', rfl⟩, fun x hx => ?_, hw⟩
    simp only [List.mem_cons, List.not_mem_nil, or_false] at hx
    rcases hx with rfl | rfl
    · exact ⟨n0, n1⟩
    · exact ⟨k0, Int.lt_of_lt_of_le k1 (by decide)⟩
abbrev a__law_joined : Stmt := topS 63
abbrev n__law_joined : List Str := ["_law_numbers", "_law_between", "_law_number"]
theorem sc__law_joined : FnScope n__law_joined ["_law_numbers", "_law_between"] (defScope a__law_joined) := ⟨rfl, rfl, rfl, by decide +kernel, rfl, by decide +kernel, by decide +kernel⟩
set_option maxHeartbeats 8000000 in
theorem ok__law_joined {f  : Addr} {fd  : FuncData} {k : Nat}  (F : Fun K "_law_joined" "_law_joined" a__law_joined f fd)   (m_str : mg "str" = none) : FnOk P w K mg base CX0 (k + 1) f fd ["_law_numbers", "_law_between"] spLJoin := by
  refine F.ok sc__law_joined (fun vs H Q E h => ?_) (fun cdv A outer s H vs Q E hr h => ?_)
  · obtain ⟨g, xs, b, rfl, _⟩ := h
    rfl
  · obtain ⟨g, xs, b, rfl, eg, pl, l12, lb, q⟩ := h
    refine ⟨_, (pss_one (ps_ret (pe_join (pv 1) (
        pe_lc (own := [("_law_number", 2)]) (g := (gName 2)) (tt := tYes) (te := (tTxStr (tCons (tVar 2) tNil))) rfl sc__law_joined.nd (pi_tup (pv 0)) (blkOk_by (N := n__law_joined) (sc := defScope a__law_joined) (by decide +kernel))
          (fun _ _ _ _ _ => (pg_name (i := 2) sc__law_joined.nd rfl (.inl rfl) (hf := .inr rfl))) (fun _ _ _ _ _ => pts_nil) (fun _ _ _ _ _ => (pe_callTy call_str_int (by rfl) m_str (by decide +kernel) (pa_cons (pv 2) pa_nil))))))), ?_⟩
    refine ⟨_, rfl, ⟨_, rfl⟩, .ref g, rfl, g, rfl, ⟨_, .inl (.inl eg)⟩, fun D nD => lc_it (walk_tup (xs := xs.map V.int)) (fun i H' => Same H H' ∧ H' D = some (.lst (((xs.map toS).take i).map V.str))) ⟨same_new nD, upd_same⟩ (fun i H' _ z => .inl (.inl (z.1 _ _ eg))) (fun i v H1 H2 hi z y => ?_) (fun H' z => ?_)⟩
    · obtain ⟨sm, eD⟩ := z
      obtain ⟨rfl, gv⟩ := y
      obtain ⟨x, ex, rfl⟩ := mapGet gv
      have hx := pl x (List.mem_of_getElem? ex)
      refine ⟨rfl, _, rfl, x, rfl, small_log hx.1 hx.2, _, eD, by rw [List.length_map, List.length_take, List.length_map]; exact small1000 (Nat.le_trans (Nat.min_le_right _ _) (by omega)), same_over sm nD, ?_⟩
      rw [upd_same, take_strs (y := toS x) (by rw [List.getElem?_map, ex]; rfl)]
    · obtain ⟨sm, eD⟩ := z
      rw [List.take_of_length_le (by rw [List.length_map, List.length_map]; exact Nat.le_refl _)] at eD
      refine ⟨_, D, xs.map toS, rfl, rfl, .inl (.inl (.inl eD)), ?_, q H' sm⟩
      have := sum_le (·.length) 30 (xs.map toS) fun x hx => by
        obtain ⟨y, hy, rfl⟩ := List.mem_map.mp hx
        exact toS_len (pl y hy).1 (pl y hy).2
      have m : xs.length * b.length ≤ 12 * 5 := Nat.mul_le_mul l12 lb
      rw [List.length_map] at this ⊢
      omega
abbrev a__law_wish_text : Stmt := topS 65
abbrev n__law_wish_text : List Str := ["_law_wish_here"]
theorem sc__law_wish_text : FnScope n__law_wish_text ["_law_wish_here"] (defScope a__law_wish_text) := ⟨rfl, rfl, rfl, by decide +kernel, rfl, by decide +kernel, by decide +kernel⟩
set_option maxHeartbeats 8000000 in
theorem ok__law_wish_text {f fJo : Addr} {fd fdJo : FuncData} {k : Nat}  (F : Fun K "_law_wish_text" "_law_wish_text" a__law_wish_text f fd) (Jo : Kn P w K mg base 1 "_law_joined" ["_law_numbers", "_law_between"] spLJoin fJo fdJo)  (m_str : mg "str" = none) : FnOk P w K mg base CX0 (k + 2) f fd ["_law_wish_here"] spLWT := by
  refine F.ok sc__law_wish_text (fun vs H Q E h => ?_) (fun cdv A outer s H vs Q E hr h => ?_)
  · obtain ⟨v, o, rfl, _⟩ := h
    rfl
  · obtain ⟨v, o, rfl, hv, hw, q⟩ := h
    refine ⟨_, (pss_one (ps_ret (pe_ifExp (pt_cmpR op_isN (pv 0) pe_non (nomark _)) pe_str (pe_op op_add_str (pe_op op_add_str (pe_callTy call_str_int (by rfl) m_str (by decide +kernel) (pa_cons (pe_ix ix_tup (pv 0) pe_int (fun _ _ => rfl)) pa_nil)) pe_str) (pe_kn Jo hr (by omega) (pa_cons (pe_ix ix_tup (pv 0) pe_int (fun _ _ => rfl)) (pa_cons pe_str pa_nil))))))), ?_⟩
    cases o with
    | none =>
      obtain rfl : v = .non := hv
      exact ⟨_, rfl, rfl, true, congrArg V.bl (decide_eq_true rfl), iteT (q H (Same.refl H))⟩
    | some w =>
      obtain ⟨p, g, rfl, ep, eg⟩ := hv
      obtain ⟨w1, w2, w3, w4, w5⟩ := hw w rfl
      have hn : (0 : Int) ≤ w.1 := by omega
      have c1 : (Str.ofString (toString w.1)).length ≤ 30 := toS_len hn w2
      have c3 : ("@" : Str).length = 1 := by decide +kernel
      have c5 := places_len w4 w5
      refine ⟨_, rfl, rfl, false, congrArg V.bl (decide_eq_false (fun z => by cases z)), iteF ?_⟩
      refine ⟨.ref p, rfl, p, _, 0, _, rfl, rfl, .inl (.inl ep), atI_nat (j := 0) rfl, w.1, rfl, small_log hn w2, _, _, rfl, rfl, fits (by omega), ?_⟩
      refine ⟨.ref p, rfl, p, _, 1, _, rfl, rfl, .inl (.inl ep), atI_nat (j := 1) rfl, g, w.2, ".", rfl, eg, w5, w4, by decide +kernel, fun H1 s1 => ⟨_, _, rfl, rfl, fits (by simp only [len_app]; omega), q H1 s1⟩⟩
abbrev a__law_letter_text : Stmt := topS 66
abbrev n__law_letter_text : List Str := ["_law_letter_here", "_law_number"]
theorem sc__law_letter_text : FnScope n__law_letter_text ["_law_letter_here"] (defScope a__law_letter_text) := ⟨rfl, rfl, rfl, by decide +kernel, rfl, by decide +kernel, by decide +kernel⟩
set_option maxHeartbeats 8000000 in
theorem ok__law_letter_text {f fWt : Addr} {fd fdWt : FuncData} {k : Nat}  (F : Fun K "_law_letter_text" "_law_letter_text" a__law_letter_text f fd) (Wt : Kn P w K mg base 2 "_law_wish_text" ["_law_wish_here"] spLWT fWt fdWt)  (m_str : mg "str" = none) : FnOk P w K mg base CX0 (k + 3) f fd ["_law_letter_here"] spShLet := by
  refine F.ok sc__law_letter_text (fun vs H Q E h => ?_) (fun cdv A outer s H vs Q E hr h => ?_)
  · obtain ⟨p, l, rfl, _⟩ := h
    rfl
  · obtain ⟨p, l, rfl, hl, lp, q⟩ := h
    refine ⟨_, (pss_one (ps_ret (pe_join pe_str (pe_op op_cat (pe_op op_cat (pe_lst (pa_cons (pe_ix ix_tup (pv 0) pe_int (fun _ _ => rfl)) pa_nil)) (
        pe_lc (own := [("_law_number", 1)]) (g := (gName 1)) (tt := tYes) (te := (tTxStr (tCons (tVar 1) tNil))) rfl sc__law_letter_text.nd (pi_tup (pe_slice (r := rSlA K) sl_tupA (pv 0) (po_some pe_int) (po_some (pe_un un_neg pe_int)))) (blkOk_by (N := n__law_letter_text) (sc := defScope a__law_letter_text) (by decide +kernel))
          (fun _ _ _ _ _ => (pg_name (i := 1) sc__law_letter_text.nd rfl (.inl rfl) (hf := .inr rfl))) (fun _ _ _ _ _ => pts_nil) (fun _ _ _ _ _ => (pe_callTy call_str_int (by rfl) m_str (by decide +kernel) (pa_cons (pv 1) pa_nil))))) (pe_lst (pa_cons (pe_kn Wt hr (by omega) (pa_cons (pe_ix ix_tup (pv 0) (pe_un un_neg pe_int) (fun _ _ => rfl)) pa_nil)) pa_nil)))))), ?_⟩
    obtain ⟨v, ep, hv⟩ := hl
    have lf := lp.few
    refine ⟨⟨_, rfl⟩, .ref p, rfl, p, _, 0, .str l.1, rfl, rfl, .inl (.inl ep), atI_nat (j := 0) rfl, (show 1 ≤ sizeLine by decide), fun B nB => ?_⟩
    have sB := same_new (o := HO.lst [V.str l.1]) nB
    have eB : (upd H B (.lst [V.str l.1])) B = some (.lst [V.str l.1]) := upd_same
    generalize upd H B (.lst [V.str l.1]) = H1 at sB eB ⊢
    refine ⟨.ref p, rfl, 1, rfl, 1, rfl, -1, rfl, cut_midT (u := .str l.1) (xs := l.2.1.map V.int) (v := v) (sB _ _ ep) fun g H2 s2 eg => ?_⟩
    refine ⟨g, rfl, ⟨_, .inl (.inl eg)⟩, fun D nD => lc_it (walk_tup (xs := l.2.1.map V.int)) (fun i H' => Same H2 H' ∧ H' D = some (.lst (((l.2.1.map toS).take i).map V.str))) ⟨same_new nD, upd_same⟩ (fun i H' _ z => .inl (.inl (z.1 _ _ eg))) (fun i u H3 H4 hi z y => ?_) (fun H3 z => ?_)⟩
    · obtain ⟨sm, eD⟩ := z
      obtain ⟨rfl, gv⟩ := y
      obtain ⟨x, ex, rfl⟩ := mapGet gv
      have hx := lp.2.1 x (List.mem_of_getElem? ex)
      refine ⟨rfl, _, rfl, x, rfl, small_log hx.1 hx.2, _, eD, by rw [List.length_map, List.length_take, List.length_map]; exact small1000 (Nat.le_trans (Nat.min_le_right _ _) (by omega)), same_over sm nD, ?_⟩
      rw [upd_same, take_strs (y := toS x) (by rw [List.getElem?_map, ex]; rfl)]
    obtain ⟨sm, eD⟩ := z
    rw [List.take_of_length_le (by rw [List.length_map, List.length_map]; exact Nat.le_refl _)] at eD
    have s3 := s2.trans sm
    refine ⟨B, D, _, _, rfl, rfl, s3 _ _ eB, eD, by rw [List.length_map, List.length_map]; exact fits (by simp only [List.length_cons, List.length_nil]; omega), fun E1 nE => ?_⟩
    have sE := same_new (o := HO.lst ([V.str l.1] ++ (l.2.1.map toS).map V.str)) nE
    have s04 := (sB.trans s3).trans sE
    have eE : (upd H3 E1 (.lst ([V.str l.1] ++ (l.2.1.map toS).map V.str))) E1 = some (.lst ([V.str l.1] ++ (l.2.1.map toS).map V.str)) := upd_same
    generalize upd H3 E1 (.lst ([V.str l.1] ++ (l.2.1.map toS).map V.str)) = H4 at sE s04 eE ⊢
    refine ⟨.ref p, rfl, 1, rfl, p, _, -1, v, rfl, rfl, .inl (.inl (s04 _ _ ep)), at_last (V.str l.1 :: l.2.1.map V.int) v, v, l.2.2, rfl, hv.keep (.same s04), lp.2.2, fun H5 s5 => ⟨(show 1 ≤ sizeLine by decide), fun W nW => ?_⟩⟩
    have sW := same_new (o := HO.lst [V.str (wishT l.2.2)]) nW
    refine ⟨E1, W, _, _, rfl, rfl, sW _ _ (s5 _ _ eE), upd_same, by rw [List.length_append, List.length_map, List.length_map]; exact fits (by simp only [List.length_cons, List.length_nil]; omega), fun Z nZ => ?_⟩
    refine ⟨_, Z, letW l, rfl, rfl, .inl (.inl (.inl ?_)), Nat.le_trans (len_let lp) (by decide), q _ (((s04.trans s5).trans sW).trans (same_new nZ))⟩
    rw [upd_same]
    unfold letW
    rw [List.map_append]
    rfl
abbrev a__law_want_text : Stmt := topS 67
abbrev n__law_want_text : List Str := ["_law_want", "_law_side"]
theorem sc__law_want_text : FnScope n__law_want_text ["_law_want"] (defScope a__law_want_text) := ⟨rfl, rfl, rfl, by decide +kernel, rfl, by decide +kernel, by decide +kernel⟩
set_option maxHeartbeats 8000000 in
theorem ok__law_want_text {f fSs : Addr} {fd fdSs : FuncData} {k : Nat}  (F : Fun K "_law_want_text" "_law_want_text" a__law_want_text f fd) (Ss : Kn P w K mg base 1 "_law_side_text" ["_law_side"] spLSide fSs fdSs)   : FnOk P w K mg base CX0 (k + 2) f fd ["_law_want"] spShWant := by
  refine F.ok sc__law_want_text (fun vs H Q E h => ?_) (fun cdv A outer s H vs Q E hr h => ?_)
  · obtain ⟨p, ss, rfl, _⟩ := h
    rfl
  · obtain ⟨p, ss, rfl, hw, hs, l24, q⟩ := h
    refine ⟨_, (pss_one (ps_ret (pe_ifExp (pt_cmpR (op_neD hr.units) (pv 0) (pe_tup pa_nil) (nomark _)) (pe_join pe_str (
        pe_lc (own := [("_law_side", 1)]) (g := (gName 1)) (tt := tYes) (te := (tCall spLSide [] E0 (tCons (tVar 1) tNil))) rfl sc__law_want_text.nd (pi_tup (pv 0)) (blkOk_by (N := n__law_want_text) (sc := defScope a__law_want_text) (by decide +kernel))
          (fun _ _ _ _ _ => (pg_name (i := 1) sc__law_want_text.nd rfl (.inl rfl) (hf := .inr rfl))) (fun _ _ _ _ _ => pts_nil) (fun _ _ _ _ _ => (pe_kn Ss hr (by omega) (pa_cons (pv 1) pa_nil))))) pe_str))), ?_⟩
    have hW := hw
    obtain ⟨as, ep, ll, ra⟩ := hw
    refine ⟨.ref p, rfl, (show 0 ≤ sizeLine by decide), fun T nT => ?_⟩
    have sT := same_new (o := HO.tup []) nT
    refine ⟨_, _, dp_wnt (hW.keep (.same sT)), .tup (.inl (.inl upd_same)) .nil, shaped_of (layS _) (depS _), shaped_of rfl (Nat.zero_le _), _, rfl, ?_⟩
    rw [eqv_nil]
    by_cases ne : ss = []
    · rw [decide_eq_true (show ss.map dS = [] by rw [ne]; rfl)]
      refine iteF ?_
      have := q _ sT
      unfold wantT at this
      rw [if_pos ne] at this
      exact this
    rw [decide_eq_false (show ¬ ss.map dS = [] from fun z => ne (List.map_eq_nil_iff.mp z))]
    refine iteT ?_
    have ep1 := sT _ _ ep
    have ra1 : ∀ (i : Nat) (a : Addr) x, as[i]? = some a → ss[i]? = some x → _ := fun i a x h1 h2 => (ra i a x h1 h2)
    generalize hH : upd H T (.tup []) = H1 at sT ep1 ⊢
    refine ⟨⟨_, rfl⟩, .ref p, rfl, p, rfl, ⟨_, .inl (.inl ep1)⟩, fun D nD => lc_it (walk_tup (xs := as.map V.ref)) (fun i H' => Same H1 H' ∧ H' D = some (.lst (((ss.map sideT).take i).map V.str))) ⟨same_new nD, upd_same⟩ (fun i H' _ z => .inl (.inl (z.1 _ _ ep1))) (fun i v H2 H3 hi z y => ?_) (fun H2 z => ?_)⟩
    · obtain ⟨sm, eD⟩ := z
      obtain ⟨rfl, gv⟩ := y
      obtain ⟨r, er, rfl⟩ := mapGet gv
      have hi' : i < ss.length := by
        have := (List.getElem?_eq_some_iff.mp er).1
        omega
      have eq' := List.getElem?_eq_getElem hi'
      have hr' := hs _ (List.getElem_mem hi')
      have s02 := sT.trans sm
      refine ⟨rfl, .ref r, rfl, r, _, rfl, (ra i r _ er eq').keep (.same s02), hr', _, eD, by rw [List.length_map, List.length_take, List.length_map]; exact small1000 (Nat.le_trans (Nat.min_le_right _ _) (by omega)), same_over sm nD, ?_⟩
      rw [upd_same, take_strs (y := sideT ss[i]) (by rw [List.getElem?_map, eq']; rfl)]
    · obtain ⟨sm, eD⟩ := z
      rw [List.take_of_length_le (by rw [List.length_map, List.length_map, ll]; exact Nat.le_refl _)] at eD
      have := q _ (sT.trans sm)
      unfold wantT at this
      rw [if_neg ne] at this
      exact ⟨_, D, ss.map sideT, rfl, rfl, .inl (.inl (.inl eD)), Nat.le_trans (len_wants l24 hs) (by decide), this⟩
abbrev a__law_way_text : Stmt := topS 68
abbrev n__law_way_text : List Str := ["_law_rows", "_law_thing", "_law_place"]
theorem sc__law_way_text : FnScope n__law_way_text ["_law_rows"] (defScope a__law_way_text) := ⟨rfl, rfl, rfl, by decide +kernel, rfl, by decide +kernel, by decide +kernel⟩
set_option maxHeartbeats 8000000 in
theorem ok__law_way_text {f  : Addr} {fd  : FuncData} {k : Nat}  (F : Fun K "_law_way_text" "_law_way_text" a__law_way_text f fd)   (m_str : mg "str" = none) : FnOk P w K mg base CX0 (k + 2) f fd ["_law_rows"] spShWay := by
  refine F.ok sc__law_way_text (fun vs H Q E h => ?_) (fun cdv A outer s H vs Q E hr h => ?_)
  · obtain ⟨p, rws, rfl, _⟩ := h
    rfl
  · obtain ⟨p, rws, rfl, hw, hs, l30, q⟩ := h
    refine ⟨_, (pss_one (ps_ret (pe_ifExp (pt_cmpR (op_neD hr.units) (pv 0) (pe_tup pa_nil) (nomark _)) (pe_join pe_str (
        pe_lc (own := [("_law_thing", 1), ("_law_place", 2)]) (g := (gTup K 2 (gCons (gName 1) (gCons (gName 2) gNil)))) (tt := tYes) (te := (tOp rTxAdd (tOp rTxAdd (tTxStr (tCons (tVar 1) tNil)) (tC (.str ":"))) (tTxStr (tCons (tVar 2) tNil)))) rfl sc__law_way_text.nd (pi_tup (pv 0)) (blkOk_by (N := n__law_way_text) (sc := defScope a__law_way_text) (by decide +kernel))
          (fun _ _ _ _ _ => (pg_tup rfl (pgs_cons (pg_name (i := 1) sc__law_way_text.nd rfl (.inl rfl) (hf := .inr rfl)) (pgs_cons (pg_name (i := 2) sc__law_way_text.nd rfl (.inl rfl) (hf := .inr rfl)) pgs_nil)))) (fun _ _ _ _ _ => pts_nil) (fun _ _ _ _ _ => (pe_op op_add_str (pe_op op_add_str (pe_callTy call_str_int (by rfl) m_str (by decide +kernel) (pa_cons (pv 1) pa_nil)) pe_str) (pe_callTy call_str_int (by rfl) m_str (by decide +kernel) (pa_cons (pv 2) pa_nil)))))) pe_str))), ?_⟩
    have hW := hw
    obtain ⟨as, ep, ll, ra⟩ := hw
    refine ⟨.ref p, rfl, (show 0 ≤ sizeLine by decide), fun T nT => ?_⟩
    have sT := same_new (o := HO.tup []) nT
    refine ⟨_, _, dp_way (hW.keep (.same sT)), .tup (.inl (.inl upd_same)) .nil, shaped_of (layRw _) (depRw _), shaped_of rfl (Nat.zero_le _), _, rfl, ?_⟩
    rw [eqv_nil]
    by_cases ne : rws = []
    · rw [decide_eq_true (show rws.map dRw = [] by rw [ne]; rfl)]
      refine iteF ?_
      have := q _ sT
      unfold wayT at this
      rw [if_pos ne] at this
      exact this
    rw [decide_eq_false (show ¬ rws.map dRw = [] from fun z => ne (List.map_eq_nil_iff.mp z))]
    refine iteT ?_
    have ep1 := sT _ _ ep
    have ra1 : ∀ (i : Nat) (a : Addr) x, as[i]? = some a → rws[i]? = some x → _ := fun i a x h1 h2 => (ra i a x h1 h2)
    generalize hH : upd H T (.tup []) = H1 at sT ep1 ⊢
    refine ⟨⟨_, rfl⟩, .ref p, rfl, p, rfl, ⟨_, .inl (.inl ep1)⟩, fun D nD => lc_it (walk_tup (xs := as.map V.ref)) (fun i H' => Same H1 H' ∧ H' D = some (.lst (((rws.map rwT).take i).map V.str))) ⟨same_new nD, upd_same⟩ (fun i H' _ z => .inl (.inl (z.1 _ _ ep1))) (fun i v H2 H3 hi z y => ?_) (fun H2 z => ?_)⟩
    · obtain ⟨sm, eD⟩ := z
      obtain ⟨rfl, gv⟩ := y
      obtain ⟨r, er, rfl⟩ := mapGet gv
      have hi' : i < rws.length := by
        have := (List.getElem?_eq_some_iff.mp er).1
        omega
      have eq' := List.getElem?_eq_getElem hi'
      have hr' := hs _ (List.getElem_mem hi')
      have s02 := sT.trans sm
      have c1 : (Str.ofString (toString ((rws[i]).1 : Int))).length ≤ 30 := toS_len hr'.thing.1 hr'.thing.2
      have c2 : (Str.ofString (toString (rws[i]).2)).length ≤ 30 := toS_len hr'.2.1 hr'.2.2
      have c3 : (":" : Str).length = 1 := by decide +kernel
      refine ⟨r, _, rfl, .inl (.inl (s02 _ _ (ra i r _ er eq'))), rfl, _, _, rfl, _, _, rfl, rfl, wipe_two, _, rfl, _, rfl, small_log hr'.thing.1 hr'.thing.2, _, _, rfl, rfl, fits (by omega), ?_⟩
      refine ⟨_, rfl, _, rfl, small_log hr'.2.1 hr'.2.2, _, _, rfl, rfl, fits (by simp only [len_app]; omega), _, eD, by rw [List.length_map, List.length_take, List.length_map]; exact small1000 (Nat.le_trans (Nat.min_le_right _ _) (by omega)), same_over sm nD, ?_⟩
      rw [upd_same, take_strs (y := rwT rws[i]) (by rw [List.getElem?_map, eq']; rfl)]
      rfl
    · obtain ⟨sm, eD⟩ := z
      rw [List.take_of_length_le (by rw [List.length_map, List.length_map, ll]; exact Nat.le_refl _)] at eD
      have := q _ (sT.trans sm)
      unfold wayT at this
      rw [if_neg ne] at this
      exact ⟨_, D, rws.map rwT, rfl, rfl, .inl (.inl (.inl eD)), Nat.le_trans (len_rws l30 hs) (by decide), this⟩
abbrev a__law_alike : Stmt := topS 69
abbrev n__law_alike : List Str := ["_law_found", "_law_due"]
theorem sc__law_alike : FnScope n__law_alike ["_law_found", "_law_due"] (defScope a__law_alike) := ⟨rfl, rfl, rfl, by decide +kernel, rfl, by decide +kernel, by decide +kernel⟩
set_option maxHeartbeats 8000000 in
theorem ok__law_alike {f  : Addr} {fd  : FuncData}   (F : Fun K "_law_alike" "_law_alike" a__law_alike f fd)   (m_repr : mg "repr" = none) : FnG P w K mg base 1 f fd ["_law_found", "_law_due"] (spAlike K) := by
  refine fnG F sc__law_alike (fun vs H Q E h => ?_) (fun cdv A outer s H vs Q E hG hr h => ?_)
  · obtain ⟨a, b, d, rfl, _⟩ := h
    rfl
  · obtain ⟨a, b, d, rfl, da, db, sd, q⟩ := h
    refine ⟨_, (pss_one (ps_ret (pe_cmpR op_eq (pe_callB (call_reprD hG hr.units) (by rfl) m_repr (by decide +kernel) (pa_cons (pv 0) pa_nil)) (pe_callB (call_reprD hG hr.units) (by rfl) m_repr (by decide +kernel) (pa_cons (pv 1) pa_nil)) (nomark _)))), ?_⟩
    exact ⟨.ref a, rfl, a, d, rfl, da, sd, .ref b, rfl, b, d, rfl, db, sd, rfl, by rw [decide_eq_true rfl]; exact q⟩
end
end K70

set_option Elab.async false
set_option linter.all false
set_option maxRecDepth 100000
namespace K70
open PySem PySem.Spec PyProof.Rows L2 NB
theorem Small.word (b : Bool) : Small (.str (word b)) 100 0 := by cases b <;> exact ⟨rfl, rfl, Nat.le_refl _, by decide +kernel, by decide +kernel⟩
theorem small_side {s : Sd} (h : SdP s) : Small (dS s) 723 1 := by
  have a1 : (s.1 : Int).natAbs < 10 ^ 90 := Nat.lt_trans (show (s.1 : Int).natAbs < 12 by have := h.1; omega) (by decide)
  have a2 : (s.2.2).natAbs < 10 ^ 90 := by
    have h1 := h.2.2
    have h0 := h.2.1
    have e : ((10 ^ 30 : Nat) : Int) = 10 ^ 30 := by norm_cast
    exact Nat.lt_trans (show (s.2.2).natAbs < 10 ^ 30 by omega) (by decide)
  exact Small.tuple (SmallAll.cons (Small.int a1) (SmallAll.cons (Small.word s.2.1) (SmallAll.cons (Small.int a2) .nil)))
theorem small_rule {q : Rl} (h : RlP q) : Small (dR q) 1448 2 := Small.tuple (SmallAll.cons (small_side h.1) (SmallAll.cons (small_side h.2) .nil))
theorem small_rules : ∀ {rs : List Rl}, (∀ q ∈ rs, RlP q) → SmallAll (rs.map dR) (1449 * rs.length) 2
  | [], _ => ⟨rfl, rfl, Nat.zero_le _, rfl, Nat.le_refl _⟩
  | q :: rs, h => by
    have c := SmallAll.cons (small_rule (h q List.mem_cons_self)) (small_rules fun y hy => h y (List.mem_cons_of_mem _ hy))
    refine ⟨c.sh, c.nd, c.dp, c.lv, Nat.le_trans c.wt ?_⟩
    rw [List.length_cons]
    omega

/-! ### the law -/
theorem small_nat {i : Int} (h0 : 0 ≤ i) (h1 : i < 10 ^ 30) : i.natAbs < 10 ^ 90 := by
  have e : ((10 ^ 30 : Nat) : Int) = 10 ^ 30 := by norm_cast
  exact Nat.lt_trans (show i.natAbs < 10 ^ 30 by omega) (by decide)
theorem small_ints {xs : List Int} (pl : Pl xs) : SmallAll (xs.map PyData.int) (311 * xs.length) 0 := SmallAll.ints fun x hx => small_nat (pl x hx).1 (pl x hx).2
theorem small_sides : ∀ {ss : List Sd}, (∀ s ∈ ss, SdP s) → SmallAll (ss.map dS) (724 * ss.length) 1
  | [], _ => ⟨rfl, rfl, Nat.zero_le _, rfl, Nat.le_refl _⟩
  | q :: rs, h => by
    have c := SmallAll.cons (small_side (h q List.mem_cons_self)) (small_sides fun y hy => h y (List.mem_cons_of_mem _ hy))
    refine ⟨c.sh, c.nd, c.dp, c.lv, Nat.le_trans c.wt ?_⟩
    rw [List.length_cons]
    omega
theorem show_rule1 {q : Rl} (h : RlP q) : Showable (dR q) := (small_rule h).ok (by decide) (by decide)
theorem show_stand {xs : List Int} (l12 : xs.length ≤ 12) (pl : Pl xs) : Showable (.tuple (xs.map PyData.int)) := (Small.tuple (small_ints pl)).ok (by omega) (by decide)
theorem show_want1 {ss : List Sd} (l24 : ss.length ≤ 24) (h : ∀ s ∈ ss, SdP s) : Showable (.tuple (ss.map dS)) := (Small.tuple (small_sides h)).ok (by omega) (by decide)
theorem small_wi : ∀ {o : Option Wi}, (∀ w, o = some w → WiP w) → Small (wiD o) 5000 2
  | none, _ => ⟨rfl, rfl, Nat.zero_le _, rfl, Nat.zero_le _⟩
  | some w, h => by
    obtain ⟨w1, w2, w3, w4, w5⟩ := h w rfl
    have c := Small.tuple (SmallAll.cons (Small.int (small_nat (show (0 : Int) ≤ w.1 by omega) w2)) (SmallAll.cons (Small.tuple (small_ints w5)) .nil))
    refine ⟨c.sh, c.nd, c.dp, c.lv, Nat.le_trans c.wt ?_⟩
    omega
theorem small_app : ∀ {ds : List PyData} {d : PyData} {w v n m : Nat}, SmallAll ds w n → Small d v m → SmallAll (ds ++ [d]) (w + 1 + v) (max n m)
  | [], d, w, v, n, m, h, h' => by
    have c := SmallAll.cons h' .nil
    exact ⟨c.sh, c.nd, Nat.le_trans c.dp (by omega), c.lv, Nat.le_trans c.wt (by omega)⟩
  | a :: ds, d, w, v, n, m, h, h' => by
    obtain ⟨a1, a2, a3, a4, a5⟩ := h
    simp only [PyData.showableAll, Bool.and_eq_true] at a1
    simp only [PyData.hasDictAll, Bool.or_eq_false_iff] at a2
    simp only [PyData.depthAll] at a3
    simp only [PyData.leavesShortAll, Bool.and_eq_true] at a4
    simp only [PyData.weightAll] at a5
    have c := small_app (ds := ds) (w := PyData.weightAll ds) (n := n) ⟨a1.2, a2.2, by omega, a4.2, Nat.le_refl _⟩ h'
    refine ⟨?_, ?_, ?_, ?_, ?_⟩
    · rw [List.cons_append]
      simp only [PyData.showableAll, a1.1, c.sh, Bool.and_self]
    · rw [List.cons_append]
      simp only [PyData.hasDictAll, a2.1, c.nd, Bool.or_self]
    · rw [List.cons_append]
      simp only [PyData.depthAll]
      have := c.dp
      omega
    · rw [List.cons_append]
      simp only [PyData.leavesShortAll, a4.1, c.lv, Bool.and_self]
    · rw [List.cons_append]
      simp only [PyData.weightAll]
      have := c.wt
      omega
theorem show_let {l : Lt} (h : LetP l) : Showable (ltD l) := by
  have a : Small (.str l.1) 100 0 := by
    rcases h.word with e | e | e <;> rw [e] <;> exact ⟨rfl, rfl, Nat.le_refl _, by decide +kernel, by decide +kernel⟩
  have f := h.few
  exact (Small.tuple (small_app (SmallAll.cons a (small_ints h.2.1)) (small_wi h.2.2))).ok (by omega) (by decide)
theorem dp_app {K : PySem.W.Frag} {H : Hp} : ∀ {xs : List V} {ds : List PyData} {v : V} {d : PyData}, DpAll K H xs ds → Dp K H v d → DpAll K H (xs ++ [v]) (ds ++ [d])
  | [], _, _, _, .nil, h => .cons h .nil
  | _ :: _, _, _, _, .cons h1 h2, h => .cons h1 (dp_app h2 h)
theorem dp_wish {K : PySem.W.Frag} {H : Hp} {v : V} : ∀ {o : Option Wi}, WV H v o → Dp K H v (wiD o)
  | none, h => by
    have e : v = .non := h
    rw [e]
    exact .non
  | some w, ⟨p, q, e, e1, e2⟩ => by
    rw [e]
    exact .tup (.inl (.inl e1)) (.cons (.int _) (.cons (.tup (.inl (.inl e2)) (dp_ints _)) .nil))
theorem dp_let {K : PySem.W.Frag} {H : Hp} {p : Addr} {l : Lt} (h : LetAt H p l) : Dp K H (.ref p) (ltD l) := by
  obtain ⟨v, e, w⟩ := h
  exact .tup (.inl (.inl e)) (dp_app (xs := .str l.1 :: l.2.1.map V.int) (.cons (.str _) (dp_ints _)) (dp_wish w))
theorem SdOk_P {tops : List Int} (l12 : tops.length ≤ 12) (pl : Pl tops) {s : Sd} (h : SideOk tops s) : SdP s := (RlOk_P l12 pl (q := (s, s)) ⟨h, h⟩).1
def spPR (C : Addr) (n : Nat) : Sp := fun vs H Q _ => ∃ (p x t : Addr) (tops : List Int) (c : Nat), vs = [.ref p, .ref x] ∧ PotAt H p c ∧ c < 500000 ∧ TopsAt C H x t tops ∧ 1 ≤ tops.length ∧ tops.length ≤ 12 ∧ Pl tops ∧ ∀ H', But p H H' → PotAt H' p (c + n) → Q (.bl true) H'
def spWR (n : Nat) : Sp := fun vs H Q _ => ∃ (p t : Addr) (tops : List Int) (c : Nat), vs = [.ref p, .ref t] ∧ PotAt H p c ∧ c < 500000 ∧ H t = some (.tup (tops.map V.int)) ∧ 1 ≤ tops.length ∧ tops.length ≤ 12 ∧ Pl tops ∧ ∀ H', But p H H' → PotAt H' p (c + n) → Q (.bl true) H'
def spLR (n : Nat) : Sp := fun vs H Q _ => ∃ (p : Addr) (c : Nat), vs = [.ref p] ∧ PotAt H p c ∧ c < 500000 ∧ ∀ H', But p H H' → PotAt H' p (c + n) → Q (.bl true) H'
section
variable {P : Program} {w : World} {K : PySem.W.Frag} {mg : Str → Option Value} {base : Heap}
abbrev a__law_rules_right : Stmt := topS 70
abbrev n__law_rules_right : List Str := ["_law_pot_here", "_law_plan", "_law_turn", "_law_rule", "_law_text"]
theorem sc__law_rules_right : FnScope n__law_rules_right ["_law_pot_here", "_law_plan"] (defScope a__law_rules_right) := ⟨rfl, rfl, rfl, by decide +kernel, rfl, by decide +kernel, by decide +kernel⟩
set_option maxHeartbeats 8000000 in
theorem ok__law_rules_right {f fAn fLx fSs fSr fRr fAl : Addr} {fd fdAn fdLx fdSs fdSr fdRr fdAl : FuncData}  {C : Addr} (F : Fun K "_law_rules_right" "_law_rules_right" a__law_rules_right f fd) (An : Kn P w K mg base 3 "_law_any_side" ["_law_pot_here", "_law_tops"] spAnyS fAn fdAn) (Lx : Kn P w K mg base 1 "_law_side_text" ["_law_side"] spLSide fLx fdLx) (Ss : Kn P w K mg base 1 "show_side" ["side"] spShSide fSs fdSs) (Sr : Kn P w K mg base 2 "show_rule" ["rule"] spShRule fSr fdSr) (Rr : Kn P w K mg base 6 "read_rule" ["plan", "text"] (spRdRule C) fRr fdRr) (Al : FnG P w K mg base 1 fAl fdAl ["_law_found", "_law_due"] (spAlike K)) (gAl : mg "_law_alike" = some (.ref fAl)) (kAl : PySem.W.keepIn K (.ref fAl) = true) (bAl : Binds K fdAl ["_law_found", "_law_due"] []) (T : PlanTxt K mg C) (m_range : mg "range" = none) : FnG P w K mg base 8 f fd ["_law_pot_here", "_law_plan"] (spPR C 20) := by
  refine fnG F sc__law_rules_right (fun vs H Q E h => ?_) (fun cdv A outer s H vs Q E hG hr h => ?_)
  · obtain ⟨p, x, t, tops, c, rfl, _⟩ := h
    rfl
  · obtain ⟨p, x, t, tops, c, rfl, pp, hc, px, l1, l12, pl, q⟩ := h
    refine ⟨_, (pss_cons (ps_for PassesOwn.never rfl (pi_range1 (by rfl) m_range (pa_cons pe_int pa_nil)) (pg_name (i := 2) sc__law_rules_right.nd rfl (.inl rfl))
        (pss_cons (ps_set (i := 3) sc__law_rules_right.nd rfl (.inl rfl) (pe_tup (pa_cons (pe_kn An hr (by omega) (pa_cons (pv 0) (pa_cons (pe_fld (pv 1) rfl) pa_nil))) (pa_cons (pe_kn An hr (by omega) (pa_cons (pv 0) (pa_cons (pe_fld (pv 1) rfl) pa_nil))) pa_nil))))
      (pss_cons (ps_set (i := 4) sc__law_rules_right.nd rfl (.inl rfl) (pe_op op_add_str (pe_op op_add_str (pe_kn Lx hr (by omega) (pa_cons (pe_ix ix_tup (pv 3) pe_int (fun _ _ => rfl)) pa_nil)) pe_str) (pe_kn Lx hr (by omega) (pa_cons (pe_ix ix_tup (pv 3) pe_int (fun _ _ => rfl)) pa_nil))))
      (pss_cons (ps_if (PW.pt (pw_or (pt_cmpR op_ne (pe_kn Ss hr (by omega) (pa_cons (pe_ix ix_tup (pv 3) pe_int (fun _ _ => rfl)) pa_nil)) (pe_kn Lx hr (by omega) (pa_cons (pe_ix ix_tup (pv 3) pe_int (fun _ _ => rfl)) pa_nil)) (nomark _)) (pw_or1 (pt_cmpR op_ne (pe_kn Sr hr (by omega) (pa_cons (pv 3) pa_nil)) (pv 4) (nomark _))))) (pss_one (ps_ret pe_bl)) pss_nil)
      (pss_one (ps_if (pt_not (pt_val (pe_callG hG Al (hr.mono (by omega)) (by rfl) gAl kAl bAl (pa_cons (pe_kn Rr hr (by omega) (pa_cons (pv 1) (pa_cons (pv 4) pa_nil))) (pa_cons (pv 3) pa_nil))))) (pss_one (ps_ret pe_bl)) pss_nil))))))
      (pss_one (ps_ret pe_bl))), ?_⟩
    refine ⟨3, rfl, by decide, by decide, for_it walk_range (fun i σ H' => (∃ u2 u3 u4, σ = [some (.ref p), some (.ref x), u2, u3, u4]) ∧ But p H H' ∧ PotAt H' p (c + 6 * i)) ⟨⟨_, _, _, rfl⟩, fun _ _ _ e => e, pp⟩ (fun _ _ _ _ _ => trivial) (fun i v σ H1' H1 hi y z => ?_) (fun σ H1 y => ?_)⟩
    · obtain ⟨⟨u2, u3, u4, rfl⟩, b1, p1⟩ := y
      obtain ⟨rfl, rfl⟩ := z
      have i3 : i < 3 := hi
      have px1 := px.keep (Keep.but b1 pp)
      have px1' := px1
      obtain ⟨dx, R, ex1, et1⟩ := px1'
      dsimp only [List.set]
      refine ⟨.ref p, rfl, .ref x, rfl, x, C, dx, _, _, rfl, ex1, T.cl, T.nT, look_tops _ _, p, t, tops, _, rfl, p1, by omega, et1, l1, l12, pl, fun H2 g1 s1 b2 p2 e1 k1 => ?_⟩
      have k12 := Keep.but b2 p1
      have px2 := px1.keep k12
      have ex2 := k12 _ _ (fun _ z => by cases z) ex1
      refine ⟨.ref p, rfl, .ref x, rfl, x, C, dx, _, _, rfl, ex2, T.cl, T.nT, look_tops _ _, p, t, tops, _, rfl, p2, by omega, k12.tup et1, l1, l12, pl, fun H3 g2 s2 b3 p3 e2 k2 => ⟨(show 2 ≤ sizeLine by decide), fun G nG => ?_⟩⟩
      have k23 := Keep.but b3 p2
      have sG := same_new (o := HO.tup [V.ref g1, V.ref g2]) nG
      have px4 := (px2.keep k23).keep (.same sG)
      have e14 := (e1.keep k23).keep (.same sG)
      have e24 := e2.keep (.same sG)
      have eG : (upd H3 G (.tup [V.ref g1, V.ref g2])) G = some (.tup [V.ref g1, V.ref g2]) := upd_same
      have b04 := ((b1.trans b2).trans b3).trans (But.of sG)
      have p4 := p3.keep sG
      generalize upd H3 G (.tup [V.ref g1, V.ref g2]) = H4 at eG e14 e24 px4 b04 p4 ⊢
      have h1 := SdOk_P l12 pl k1
      have h2 := SdOk_P l12 pl k2
      have c1 := len_side h1
      have c2 := len_side h2
      have c3 : (" / " : Str).length = 3 := by decide +kernel
      have hR : RuleAt H4 G (s1, s2) := ⟨g1, g2, eG, e14, e24⟩
      dsimp only [List.set]
      refine ⟨.ref G, rfl, G, _, 0, .ref g1, rfl, rfl, .inl (.inl eG), atI_nat (j := 0) rfl, g1, s1, rfl, e14, h1, _, _, rfl, rfl, fits (by omega), .ref G, rfl, G, _, 1, .ref g2, rfl, rfl, .inl (.inl eG), atI_nat (j := 1) rfl, g2, s2, rfl, e24, h2, _, _, rfl, rfl, fits (by simp only [len_app]; omega), ?_⟩
      dsimp only [List.set]
      refine ⟨.ref G, rfl, G, _, 0, .ref g1, rfl, rfl, .inl (.inl eG), atI_nat (j := 0) rfl, g1, s1, rfl, e14, h1, .ref G, rfl, G, _, 0, .ref g1, rfl, rfl, .inl (.inl eG), atI_nat (j := 0) rfl, g1, s1, rfl, e14, h1, rfl, _, rfl, iteNS rfl ?_⟩
      refine ⟨_, rfl, G, (s1, s2), rfl, hR, ⟨h1, h2⟩, fun H5 s5 => ⟨_, rfl, rfl, _, rfl, iteNS rfl ?_⟩⟩
      refine ⟨.ref x, rfl, _, rfl, x, t, tops, (s1, s2), rfl, px4.keep (.same s5), ⟨k1, k2⟩, ⟨h1, h2⟩, fun H6 g s6 eg => ⟨.ref G, rfl, g, G, dR (s1, s2), rfl, dp_rule eg, dp_rule (hR.keep (.same (s5.trans s6))), show_rule1 ⟨h1, h2⟩, true, rfl, iteF ?_⟩⟩
      exact ⟨⟨_, _, _, rfl⟩, b04.trans (But.of (s5.trans s6)), (p4.keep (s5.trans s6)).mono (by omega)⟩
    · obtain ⟨⟨u2, u3, u4, rfl⟩, b1, p1⟩ := y
      exact q H1 b1 (p1.mono (by show c + 6 * 3 ≤ c + 20; omega))
abbrev a__law_standings_right : Stmt := topS 71
abbrev n__law_standings_right : List Str := ["_law_pot_here", "_law_plan", "_law_turn", "_law_standing_here", "_law_text"]
theorem sc__law_standings_right : FnScope n__law_standings_right ["_law_pot_here", "_law_plan"] (defScope a__law_standings_right) := ⟨rfl, rfl, rfl, by decide +kernel, rfl, by decide +kernel, by decide +kernel⟩
set_option maxHeartbeats 8000000 in
theorem ok__law_standings_right {f fSd1 fJo fSs fRs fAl : Addr} {fd fdSd1 fdJo fdSs fdRs fdAl : FuncData}  {C : Addr} (F : Fun K "_law_standings_right" "_law_standings_right" a__law_standings_right f fd) (Sd1 : Kn P w K mg base 2 "_law_standing" ["_law_pot_here", "_law_tops"] (spStand K) fSd1 fdSd1) (Jo : Kn P w K mg base 1 "_law_joined" ["_law_numbers", "_law_between"] spLJoin fJo fdJo) (Ss : Kn P w K mg base 1 "show_standing" ["standing"] spShStand fSs fdSs) (Rs : Kn P w K mg base 4 "read_standing" ["plan", "text"] (spRdStand C) fRs fdRs) (Al : FnG P w K mg base 1 fAl fdAl ["_law_found", "_law_due"] (spAlike K)) (gAl : mg "_law_alike" = some (.ref fAl)) (kAl : PySem.W.keepIn K (.ref fAl) = true) (bAl : Binds K fdAl ["_law_found", "_law_due"] []) (T : PlanTxt K mg C) (m_range : mg "range" = none) : FnG P w K mg base 8 f fd ["_law_pot_here", "_law_plan"] (spPR C 50) := by
  refine fnG F sc__law_standings_right (fun vs H Q E h => ?_) (fun cdv A outer s H vs Q E hG hr h => ?_)
  · obtain ⟨p, x, t, tops, c, rfl, _⟩ := h
    rfl
  · obtain ⟨p, x, t, tops, c, rfl, pp, hc, px, l1, l12, pl, q⟩ := h
    refine ⟨_, (pss_cons (ps_for PassesOwn.never rfl (pi_range1 (by rfl) m_range (pa_cons pe_int pa_nil)) (pg_name (i := 2) sc__law_standings_right.nd rfl (.inl rfl))
        (pss_cons (ps_set (i := 3) sc__law_standings_right.nd rfl (.inl rfl) (pe_kn Sd1 hr (by omega) (pa_cons (pv 0) (pa_cons (pe_fld (pv 1) rfl) pa_nil))))
      (pss_cons (ps_set (i := 4) sc__law_standings_right.nd rfl (.inl rfl) (pe_kn Jo hr (by omega) (pa_cons (pv 3) (pa_cons pe_str pa_nil))))
      (pss_cons (ps_if (pt_cmpR op_ne (pe_kn Ss hr (by omega) (pa_cons (pv 3) pa_nil)) (pv 4) (nomark _)) (pss_one (ps_ret pe_bl)) pss_nil)
      (pss_one (ps_if (pt_not (pt_val (pe_callG hG Al (hr.mono (by omega)) (by rfl) gAl kAl bAl (pa_cons (pe_kn Rs hr (by omega) (pa_cons (pv 1) (pa_cons (pv 4) pa_nil))) (pa_cons (pv 3) pa_nil))))) (pss_one (ps_ret pe_bl)) pss_nil))))))
      (pss_one (ps_ret pe_bl))), ?_⟩
    refine ⟨3, rfl, by decide, by decide, for_it walk_range (fun i σ H' => (∃ u2 u3 u4, σ = [some (.ref p), some (.ref x), u2, u3, u4]) ∧ But p H H' ∧ PotAt H' p (c + 12 * i)) ⟨⟨_, _, _, rfl⟩, fun _ _ _ e => e, pp⟩ (fun _ _ _ _ _ => trivial) (fun i v σ H1' H1 hi y z => ?_) (fun σ H1 y => ?_)⟩
    · obtain ⟨⟨u2, u3, u4, rfl⟩, b1, p1⟩ := y
      obtain ⟨rfl, rfl⟩ := z
      have i3 : i < 3 := hi
      have px1 := px.keep (Keep.but b1 pp)
      have px1' := px1
      obtain ⟨dx, R, ex1, et1⟩ := px1'
      dsimp only [List.set]
      refine ⟨.ref p, rfl, .ref x, rfl, x, C, dx, _, _, rfl, ex1, T.cl, T.nT, look_tops _ _, p, t, tops, _, rfl, p1, .inl (.inl et1), pl, l12, by omega, fun H2 o st b2 p2 no eo ls pls le => ?_⟩
      have px2 := px1.keep (Keep.but b2 p1)
      have ne : st ≠ [] := fun z => by
        rw [z] at ls
        have : tops.length = 0 := ls.symm
        omega
      dsimp only [List.set]
      refine ⟨_, rfl, o, st, " ", rfl, eo, pls, by omega, by decide +kernel, fun H3 s3 => ?_⟩
      dsimp only [List.set]
      refine ⟨_, rfl, o, st, rfl, s3 _ _ eo, pls, by omega, fun H4 s4 => ⟨_, rfl, rfl, _, rfl, iteNS rfl ?_⟩⟩
      have s24 := s3.trans s4
      refine ⟨.ref x, rfl, _, rfl, x, t, tops, st, rfl, px2.keep (.same s24), ne, ls, l12, pls, le, fun H5 g s5 eg => ⟨_, rfl, g, o, .tuple (st.map PyData.int), rfl, dp_tup (.inl (.inl eg)), dp_tup (.inl (.inl ((s24.trans s5) _ _ eo))), show_stand (by omega) pls, true, rfl, iteF ?_⟩⟩
      exact ⟨⟨_, _, _, rfl⟩, (b1.trans b2).trans (But.of (s24.trans s5)), (p2.keep (s24.trans s5)).mono (by omega)⟩
    · obtain ⟨⟨u2, u3, u4, rfl⟩, b1, p1⟩ := y
      exact q H1 b1 (p1.mono (by show c + 12 * 3 ≤ c + 50; omega))
abbrev a__law_wants_right : Stmt := topS 72
abbrev n__law_wants_right : List Str := ["_law_pot_here", "_law_plan", "_law_many", "_law_want", "_law_text", "_law_turn"]
theorem sc__law_wants_right : FnScope n__law_wants_right ["_law_pot_here", "_law_plan"] (defScope a__law_wants_right) := ⟨rfl, rfl, rfl, by decide +kernel, rfl, by decide +kernel, by decide +kernel⟩
set_option maxHeartbeats 8000000 in
theorem ok__law_wants_right {f fTk fAn fLx fSs fRs fAl : Addr} {fd fdTk fdAn fdLx fdSs fdRs fdAl : FuncData}  {C : Addr} (F : Fun K "_law_wants_right" "_law_wants_right" a__law_wants_right f fd) (Tk : Kn P w K mg base 1 "_law_take" ["_law_pot_here", "_law_many"] spTake fTk fdTk) (An : Kn P w K mg base 3 "_law_any_side" ["_law_pot_here", "_law_tops"] spAnyS fAn fdAn) (Lx : Kn P w K mg base 2 "_law_want_text" ["_law_want"] spShWant fLx fdLx) (Ss : Kn P w K mg base 2 "show_want" ["want"] spShWant fSs fdSs) (Rs : Kn P w K mg base 6 "read_want" ["plan", "text"] (spRdWant C) fRs fdRs) (Al : FnG P w K mg base 1 fAl fdAl ["_law_found", "_law_due"] (spAlike K)) (gAl : mg "_law_alike" = some (.ref fAl)) (kAl : PySem.W.keepIn K (.ref fAl) = true) (bAl : Binds K fdAl ["_law_found", "_law_due"] []) (T : PlanTxt K mg C) (m_range : mg "range" = none) (m_tuple : mg "tuple" = none) : FnG P w K mg base 8 f fd ["_law_pot_here", "_law_plan"] (spPR C 300) := by
  refine fnG F sc__law_wants_right (fun vs H Q E h => ?_) (fun cdv A outer s H vs Q E hG hr h => ?_)
  · obtain ⟨p, x, t, tops, c, rfl, _⟩ := h
    rfl
  · obtain ⟨p, x, t, tops, c, rfl, pp, hc, px, l1, l12, pl, q⟩ := h
    refine ⟨_, (pss_cons (ps_for PassesOwn.never rfl (pi_tup (pe_tup (pa_cons pe_int (pa_cons pe_int (pa_cons (pe_op op_add pe_int (pe_kn Tk hr (by omega) (pa_cons (pv 0) (pa_cons pe_int pa_nil)))) (pa_cons pe_int pa_nil)))))) (pg_name (i := 2) sc__law_wants_right.nd rfl (.inl rfl))
        (pss_cons (ps_set (i := 3) sc__law_wants_right.nd rfl (.inl rfl) (pe_callTy call_tuple_of (by rfl) m_tuple (by decide +kernel) (pa_cons (
        pe_lc (own := [("_law_turn", 5)]) (g := (gName 5)) (tt := tYes) (te := (tCall spAnyS [] E0 (tCons (tVar 0) (tCons (tFld K (tVar 1) "tops") tNil)))) rfl sc__law_wants_right.nd (pi_range1 (by rfl) m_range (pa_cons (pv 2) pa_nil)) (blkOk_by (N := n__law_wants_right) (sc := defScope a__law_wants_right) (by decide +kernel))
          (fun _ _ _ _ _ => (pg_name (i := 5) sc__law_wants_right.nd rfl (.inl rfl) (hf := .inr rfl))) (fun _ _ _ _ _ => pts_nil) (fun _ _ _ _ _ => (pe_kn An hr (by omega) (pa_cons (pv 0) (pa_cons (pe_fld (pv 1) rfl) pa_nil))))) pa_nil)))
      (pss_cons (ps_set (i := 4) sc__law_wants_right.nd rfl (.inl rfl) (pe_kn Lx hr (by omega) (pa_cons (pv 3) pa_nil)))
      (pss_cons (ps_if (pt_cmpR op_ne (pe_kn Ss hr (by omega) (pa_cons (pv 3) pa_nil)) (pv 4) (nomark _)) (pss_one (ps_ret pe_bl)) pss_nil)
      (pss_one (ps_if (pt_not (pt_val (pe_callG hG Al (hr.mono (by omega)) (by rfl) gAl kAl bAl (pa_cons (pe_kn Rs hr (by omega) (pa_cons (pv 1) (pa_cons (pv 4) pa_nil))) (pa_cons (pv 3) pa_nil))))) (pss_one (ps_ret pe_bl)) pss_nil))))))
      (pss_one (ps_ret pe_bl))), ?_⟩
    refine ⟨.ref p, rfl, p, 22, c, rfl, pp, by decide, by decide, by omega, fun d H1 b1 p1 d0 d1 => ⟨2, d, rfl, rfl, (show 4 ≤ sizeLine by decide), fun M nM => ?_⟩⟩
    have sM := same_new (o := HO.tup [V.int 0, V.int 1, V.int (2 + d), V.int 24]) nM
    have eM : (upd H1 M (.tup [V.int 0, V.int 1, V.int (2 + d), V.int 24])) M = some (.tup [V.int 0, V.int 1, V.int (2 + d), V.int 24]) := upd_same
    have nMp : M ≠ p := p1.ne nM
    have p2 := p1.keep sM
    have b2 := b1.trans (But.of sM)
    have px2 := px.keep (Keep.but b2 pp)
    generalize upd H1 M (.tup [V.int 0, V.int 1, V.int (2 + d), V.int 24]) = H2 at eM p2 b2 px2 ⊢
    clear sM nM b1 p1
    refine ⟨M, rfl, ⟨_, .inl (.inl eM)⟩, for_it (walk_tup (xs := [V.int 0, V.int 1, V.int (2 + d), V.int 24])) (fun k σ H' => (∃ u2 u3 u4, σ = [some (.ref p), some (.ref x), u2, u3, u4, none]) ∧ But p H2 H' ∧ PotAt H' p (c + 1 + 72 * k)) ⟨⟨_, _, _, rfl⟩, fun _ _ _ e => e, p2⟩ (fun k σ H' _ y => .inl (.inl (y.2.1 _ _ nMp eM))) (fun k v σ H3' H3 hk y z => ?_) (fun σ H3 y => ?_)⟩
    · obtain ⟨⟨u2, u3, u4, rfl⟩, b3, p3⟩ := y
      obtain ⟨rfl, gv⟩ := z
      have k4 : k < 4 := hk
      obtain ⟨n, rfl, n24⟩ : ∃ n : Nat, v = .int (n : Int) ∧ n ≤ 24 := by
        match k, k4, gv with
        | 0, _, gv => exact ⟨0, (Option.some.inj gv).symm, by decide⟩
        | 1, _, gv => exact ⟨1, (Option.some.inj gv).symm, by decide⟩
        | 2, _, gv =>
          obtain ⟨m, rfl⟩ := nat_of d0
          exact ⟨2 + m, (by rw [← Option.some.inj gv]; simp), by omega⟩
        | 3, _, gv => exact ⟨24, (Option.some.inj gv).symm, by decide⟩
      have px3 := px2.keep (Keep.but b3 p2)
      dsimp only [List.set]
      refine ⟨_, rfl, (n : Int), rfl, by omega, by omega, fun D nD => lc_it walk_range (fun i H' => But p H3 H' ∧ PotAt H' p (c + 1 + 72 * k + 3 * i) ∧ ∃ (as : List Addr) (ss : List Sd), H' D = some (.lst (as.map V.ref)) ∧ as.length = i ∧ ss.length = i ∧ (∀ (j : Nat) (a : Addr) (r : Sd), as[j]? = some a → ss[j]? = some r → SideAt H' a r) ∧ ∀ r ∈ ss, SideOk tops r) ⟨but_new (fun _ _ _ e => e) nD, pot_upd p3 (p3.ne nD), [], [], upd_same, rfl, rfl, fun j a r h => (by cases h), fun r h => (by cases h)⟩ (fun _ _ _ _ => trivial) (fun i v H4 H5 hi z y => ?_) (fun H4 z => ?_)⟩
      · obtain ⟨b4, p4, as, ss, eD, la, lr, ha, ok⟩ := z
        obtain ⟨rfl, rfl⟩ := y
        have hi' : i < 24 := by omega
        have nDp : D ≠ p := p3.ne nD
        have px4 := px3.keep (Keep.but b4 p3)
        have px4' := px4
        obtain ⟨dx, R, ex4, et4⟩ := px4'
        refine ⟨rfl, .ref p, rfl, .ref x, rfl, x, C, dx, _, _, rfl, ex4, T.cl, T.nT, look_tops _ _, p, t, tops, _, rfl, p4, by omega, et4, l1, l12, pl, fun H6 g1 s1 b6 p6 e6 k6 => ?_⟩
        have k46 := Keep.but b6 p4
        have eD6 : H6 D = some (.lst (as.map V.ref)) := b6 _ _ nDp eD
        have kD : Keep H6 (upd H6 D (.lst (as.map V.ref ++ [V.ref g1]))) := Keep.upd eD6
        have b36 : But p H3 H6 := b4.trans b6
        refine ⟨_, eD6, by rw [List.length_map, la]; exact small1000 (by omega), but_new b36 nD, pot_upd (p6.mono (by omega)) nDp, as ++ [g1], ss ++ [s1], by rw [upd_same, List.map_append]; rfl, by rw [List.length_append, la]; rfl, by rw [List.length_append, lr]; rfl, fun j a r h1 h2 => ?_, fun r hr => ?_⟩
        · by_cases hj : j < as.length
          · rw [List.getElem?_append_left hj] at h1
            rw [List.getElem?_append_left (by omega)] at h2
            exact ((ha j a r h1 h2).keep k46).keep kD
          · rw [List.getElem?_append_right (by omega)] at h1
            rw [List.getElem?_append_right (by omega)] at h2
            have hj0 : j = i := by
              have := (List.getElem?_eq_some_iff.mp h1).1
              simp at this
              omega
            subst hj0
            rw [show j - as.length = 0 by omega] at h1
            rw [show j - ss.length = 0 by omega] at h2
            cases h1
            cases h2
            exact e6.keep kD
        · rcases List.mem_append.mp hr with h | h
          · exact ok r h
          · rw [List.mem_singleton.mp h]
            exact k6
      · obtain ⟨b4, p4, as, ss, eD, la, lr, ha, ok⟩ := z
        simp only [Int.toNat_natCast] at la lr p4
        refine ⟨D, _, rfl, .inl ⟨.inl (.inl eD), fun g ng => ?_⟩⟩
        have sg := same_new (o := HO.tup (as.map V.ref)) ng
        have hW : WntAt (upd H4 g (.tup (as.map V.ref))) g ss := ⟨as, upd_same, by omega, fun j a r h1 h2 => (ha j a r h1 h2).keep (.same sg)⟩
        have p5 := p4.keep sg
        have px5 := (px3.keep (Keep.but b4 p3)).keep (.same sg)
        have b5 := b4.trans (But.of sg)
        generalize upd H4 g (.tup (as.map V.ref)) = H5 at hW p5 px5 b5 ⊢
        have hs : ∀ s ∈ ss, SdP s := fun s h => SdOk_P l12 pl (ok s h)
        have l24 : ss.length ≤ 24 := by omega
        dsimp only [List.set]
        refine ⟨_, rfl, g, ss, rfl, hW, hs, l24, fun H6 s6 => ?_⟩
        dsimp only [List.set]
        refine ⟨_, rfl, g, ss, rfl, hW.keep (.same s6), hs, l24, fun H7 s7 => ⟨_, rfl, rfl, _, rfl, iteNS rfl ?_⟩⟩
        have s57 := s6.trans s7
        refine ⟨.ref x, rfl, _, rfl, x, t, tops, ss, rfl, px5.keep (.same s57), ok, hs, l24, fun H8 g8 s8 e8 => ⟨_, rfl, g8, g, .tuple (ss.map dS), rfl, dp_wnt e8, dp_wnt (hW.keep (.same (s57.trans s8))), show_want1 l24 hs, true, rfl, iteF ?_⟩⟩
        exact ⟨⟨_, _, _, rfl⟩, (b3.trans b5).trans (But.of (s57.trans s8)), (p5.keep (s57.trans s8)).mono (by omega)⟩
    · obtain ⟨⟨u2, u3, u4, rfl⟩, b3, p3⟩ := y
      exact q H3 (b2.trans b3) (p3.mono (by show c + 1 + 72 * 4 ≤ c + 300; omega))
abbrev a__law_ways_right : Stmt := topS 73
abbrev n__law_ways_right : List Str := ["_law_pot_here", "_law_tops", "_law_many", "_law_rows", "_law_turn", "_law_thing"]
theorem sc__law_ways_right : FnScope n__law_ways_right ["_law_pot_here", "_law_tops"] (defScope a__law_ways_right) := ⟨rfl, rfl, rfl, by decide +kernel, rfl, by decide +kernel, by decide +kernel⟩
set_option maxHeartbeats 8000000 in
theorem ok__law_ways_right {f fTk fLx fSs : Addr} {fd fdTk fdLx fdSs : FuncData} {k : Nat}  (F : Fun K "_law_ways_right" "_law_ways_right" a__law_ways_right f fd) (Tk : Kn P w K mg base 1 "_law_take" ["_law_pot_here", "_law_many"] spTake fTk fdTk) (Lx : Kn P w K mg base 2 "_law_way_text" ["_law_rows"] spShWay fLx fdLx) (Ss : Kn P w K mg base 2 "show_way" ["way"] spShWay fSs fdSs)  (m_len : mg "len" = none) (m_range : mg "range" = none) (m_tuple : mg "tuple" = none) : FnOk P w K mg base CX0 (k + 4) f fd ["_law_pot_here", "_law_tops"] (spWR 200) := by
  refine F.ok sc__law_ways_right (fun vs H Q E h => ?_) (fun cdv A outer s H vs Q E hr h => ?_)
  · obtain ⟨p, t, tops, c, rfl, _⟩ := h
    rfl
  · obtain ⟨p, t, tops, c, rfl, pp, hc, et, l1, l12, pl, q⟩ := h
    refine ⟨_, (pss_cons (ps_for PassesOwn.never rfl (pi_tup (pe_tup (pa_cons pe_int (pa_cons pe_int (pa_cons (pe_op op_add pe_int (pe_kn Tk hr (by omega) (pa_cons (pv 0) (pa_cons pe_int pa_nil)))) pa_nil))))) (pg_name (i := 2) sc__law_ways_right.nd rfl (.inl rfl))
        (pss_cons (ps_set (i := 3) sc__law_ways_right.nd rfl (.inl rfl) (pe_lst pa_nil))
      (pss_cons (ps_for PassesOwn.never rfl (pi_range1 (by rfl) m_range (pa_cons (pv 2) pa_nil)) (pg_name (i := 4) sc__law_ways_right.nd rfl (.inl rfl))
        (pss_cons (ps_set (i := 5) sc__law_ways_right.nd rfl (.inl rfl) (pe_kn Tk hr (by omega) (pa_cons (pv 0) (pa_cons (pe_callB call_len_seq (by rfl) m_len (by decide +kernel) (pa_cons (pv 1) pa_nil)) pa_nil))))
      (pss_one (ps_expr (pe_bm PySem.F.plainAttrs_list PySem.F.slot_list_append PySem.F.type_list_append mt_append (pv 3) (pa_cons (pe_tup (pa_cons (pv 5) (pa_cons (pe_kn Tk hr (by omega) (pa_cons (pv 0) (pa_cons (pe_op op_add (pe_ix ix_tup (pv 1) (pv 5) (fun _ _ => rfl)) pe_int) pa_nil))) pa_nil))) pa_nil))))))
      (pss_one (ps_if (pt_cmpR op_ne (pe_kn Ss hr (by omega) (pa_cons (pe_callTy call_tuple_of (by rfl) m_tuple (by decide +kernel) (pa_cons (pv 3) pa_nil)) pa_nil)) (pe_kn Lx hr (by omega) (pa_cons (pe_callTy call_tuple_of (by rfl) m_tuple (by decide +kernel) (pa_cons (pv 3) pa_nil)) pa_nil)) (nomark _)) (pss_one (ps_ret pe_bl)) pss_nil)))))
      (pss_one (ps_ret pe_bl))), ?_⟩
    refine ⟨.ref p, rfl, p, 19, c, rfl, pp, by decide, by decide, by omega, fun d H1 b1 p1 d0 d1 => ⟨2, d, rfl, rfl, (show 3 ≤ sizeLine by decide), fun M nM => ?_⟩⟩
    have sM := same_new (o := HO.tup [V.int 0, V.int 1, V.int (2 + d)]) nM
    have eM : (upd H1 M (.tup [V.int 0, V.int 1, V.int (2 + d)])) M = some (.tup [V.int 0, V.int 1, V.int (2 + d)]) := upd_same
    have nMp : M ≠ p := p1.ne nM
    have p2 := p1.keep sM
    have b2 := b1.trans (But.of sM)
    have et2 := (Keep.but b2 pp).tup et
    generalize upd H1 M (.tup [V.int 0, V.int 1, V.int (2 + d)]) = H2 at eM p2 b2 et2 ⊢
    clear sM nM b1 p1
    have big : ∀ n : Nat, n ≤ 12 → (n : Int) < 2 ^ 200 := fun n h => Int.lt_of_le_of_lt (show (n : Int) ≤ 12 by omega) (by decide)
    refine ⟨M, rfl, ⟨_, .inl (.inl eM)⟩, for_it (walk_tup (xs := [V.int 0, V.int 1, V.int (2 + d)])) (fun k σ H' => (∃ u2 u3 u4 u5, σ = [some (.ref p), some (.ref t), u2, u3, u4, u5]) ∧ But p H2 H' ∧ PotAt H' p (c + 1 + 40 * k)) ⟨⟨_, _, _, _, rfl⟩, fun _ _ _ e => e, p2⟩ (fun k σ H' _ y => .inl (.inl (y.2.1 _ _ nMp eM))) (fun k v σ H3' H3 hk y z => ?_) (fun σ H3 y => ?_)⟩
    · obtain ⟨⟨u2, u3, u4, u5, rfl⟩, b3, p3⟩ := y
      obtain ⟨rfl, gv⟩ := z
      have k3 : k < 3 := hk
      obtain ⟨n, rfl, n20⟩ : ∃ n : Nat, v = .int (n : Int) ∧ n ≤ 20 := by
        match k, k3, gv with
        | 0, _, gv => exact ⟨0, (Option.some.inj gv).symm, by decide⟩
        | 1, _, gv => exact ⟨1, (Option.some.inj gv).symm, by decide⟩
        | 2, _, gv =>
          obtain ⟨m, rfl⟩ := nat_of d0
          exact ⟨2 + m, (by rw [← Option.some.inj gv]; simp), by omega⟩
      have et3 := (Keep.but b3 p2).tup et2
      dsimp only [List.set]
      refine ⟨(show 0 ≤ sizeLine by decide), fun L nL => ?_⟩
      dsimp only [List.set]
      have nLp : L ≠ p := p3.ne nL
      refine ⟨_, rfl, (n : Int), rfl, by omega, by omega, for_it walk_range (fun i σ H' => (∃ u4 u5, σ = [some (.ref p), some (.ref t), some (.int (n : Int)), some (.ref L), u4, u5]) ∧ But p H3 H' ∧ PotAt H' p (c + 1 + 40 * k + 2 * i) ∧ ∃ (as : List Addr) (rws : List Rw), H' L = some (.lst (as.map V.ref)) ∧ as.length = i ∧ rws.length = i ∧ (∀ (j : Nat) (a : Addr) (r : Rw), as[j]? = some a → rws[j]? = some r → H' a = some (.tup [.int r.1, .int r.2])) ∧ ∀ r ∈ rws, RwP r) ⟨⟨_, _, rfl⟩, but_new (fun _ _ _ e => e) nL, pot_upd p3 nLp, [], [], upd_same, rfl, rfl, fun j a r h => (by cases h), fun r h => (by cases h)⟩ (fun _ _ _ _ _ => trivial) (fun i v σ H4' H4 hi z y => ?_) (fun σ H4 z => ?_)⟩
      · obtain ⟨⟨u4, u5, rfl⟩, b4, p4, as, rws, eL, la, lr, ha, ok⟩ := z
        obtain ⟨rfl, rfl⟩ := y
        have hi' : i < 20 := by omega
        have et4 := (Keep.but b4 p3).tup et3
        dsimp only [List.set]
        refine ⟨.ref p, rfl, .ref t, rfl, t, _, rfl, .inr (.inl (.inl et4)), p, _, _, rfl, p4, ?_, ?_, by omega, fun m H5 b5 p5 m0 m1 => ?_⟩
        · rw [List.length_map]; omega
        · rw [List.length_map]; exact big _ l12
        rw [List.length_map] at m1
        obtain ⟨m, rfl⟩ := nat_of m0
        have hm : m < tops.length := by omega
        have htp := pl tops[m] (List.getElem_mem hm)
        have k45 := Keep.but b5 p4
        have et5 := k45.tup et4
        have eL5 : H5 L = some (.lst (as.map V.ref)) := b5 _ _ nLp eL
        dsimp only [List.set]
        refine ⟨.ref L, rfl, .inl ⟨rfl, _, .inl (.inl eL5)⟩, _, rfl, .ref p, rfl, .ref t, rfl, _, rfl, t, _, (m : Int), .int tops[m], rfl, rfl, .inl (.inl et5), atI_nat (by rw [List.getElem?_map, List.getElem?_eq_getElem hm]; rfl), tops[m], 1, rfl, rfl, p, _, _, rfl, p5, by omega, Int.lt_of_le_of_lt (show tops[m] + 1 ≤ 10 ^ 30 by omega) (by decide), by omega, fun e H6 b6 p6 e0 e1 => ⟨(show 2 ≤ sizeLine by decide), fun G nG => ?_⟩⟩
        have k46 := k45.trans (Keep.but b6 p5)
        have eL6 : H6 L = some (.lst (as.map V.ref)) := b6 _ _ nLp eL5
        have sG := same_new (o := HO.tup [V.int (m : Int), V.int e]) nG
        have k47 := k46.trans (.same sG)
        have eL7 := sG _ _ eL6
        have eG : (upd H6 G (.tup [V.int (m : Int), V.int e])) G = some (.tup [V.int (m : Int), V.int e]) := upd_same
        have p7 := p6.keep sG
        have b37 := ((b4.trans b5).trans b6).trans (But.of sG)
        generalize upd H6 G (.tup [V.int (m : Int), V.int e]) = H7 at eL7 eG p7 b37 k47 ⊢
        have kL : Keep H7 (upd H7 L (.lst (as.map V.ref ++ [V.ref G]))) := Keep.upd eL7
        refine ⟨L, _, _, rfl, rfl, eL7, by rw [List.length_map, la]; exact small1000 (by omega), ⟨_, _, rfl⟩, but_new b37 nL, pot_upd (p7.mono (by omega)) nLp, as ++ [G], rws ++ [(m, e)], by rw [upd_same, List.map_append]; rfl, by rw [List.length_append, la]; rfl, by rw [List.length_append, lr]; rfl, fun j a r h1 h2 => ?_, fun r hr => ?_⟩
        · by_cases hj : j < as.length
          · rw [List.getElem?_append_left hj] at h1
            rw [List.getElem?_append_left (by omega)] at h2
            exact kL.tup (k47.tup (ha j a r h1 h2))
          · rw [List.getElem?_append_right (by omega)] at h1
            rw [List.getElem?_append_right (by omega)] at h2
            have hj0 : j = i := by
              have := (List.getElem?_eq_some_iff.mp h1).1
              simp at this
              omega
            subst hj0
            rw [show j - as.length = 0 by omega] at h1
            rw [show j - rws.length = 0 by omega] at h2
            cases h1
            cases h2
            exact kL.tup eG
        · rcases List.mem_append.mp hr with h | h
          · exact ok r h
          · rw [List.mem_singleton.mp h]
            exact ⟨(by show m < 12; omega), e0, (by show e < 10 ^ 30; omega)⟩
      · obtain ⟨⟨u4, u5, rfl⟩, b4, p4, as, rws, eL, la, lr, ha, ok⟩ := z
        simp only [Int.toNat_natCast] at la lr p4
        refine ⟨.ref L, rfl, L, _, rfl, .inl ⟨.inl (.inl eL), fun g ng => ?_⟩⟩
        have sg := same_new (o := HO.tup (as.map V.ref)) ng
        have hW : WayAt (upd H4 g (.tup (as.map V.ref))) g rws := ⟨as, upd_same, by omega, fun j a r h1 h2 => sg _ _ (ha j a r h1 h2)⟩
        refine ⟨g, rws, rfl, hW, ok, by omega, fun H6 s6 => ⟨.ref L, rfl, L, _, rfl, .inl ⟨.inl (.inl (s6 _ _ (sg _ _ eL))), fun g2 ng2 => ?_⟩⟩⟩
        have s26 := sg.trans s6
        have sg2 := same_new (o := HO.tup (as.map V.ref)) ng2
        refine ⟨g2, rws, rfl, ⟨as, upd_same, by omega, fun j a r h1 h2 => sg2 _ _ (s26 _ _ (ha j a r h1 h2))⟩, ok, by omega, fun H8 s8 => ⟨rfl, _, rfl, iteNS rfl ?_⟩⟩
        have s48 := (s26.trans sg2).trans s8
        exact ⟨⟨_, _, _, _, rfl⟩, b3.trans (b4.trans (But.of s48)), (p4.keep s48).mono (by omega)⟩
    · obtain ⟨⟨u2, u3, u4, u5, rfl⟩, b3, p3⟩ := y
      exact q H3 (b2.trans b3) (p3.mono (by show c + 1 + 40 * 3 ≤ c + 200; omega))
abbrev a__law_letters_right : Stmt := topS 74
abbrev n__law_letters_right : List Str := ["_law_pot_here", "_law_turn", "_law_letter_here", "_law_text"]
theorem sc__law_letters_right : FnScope n__law_letters_right ["_law_pot_here"] (defScope a__law_letters_right) := ⟨rfl, rfl, rfl, by decide +kernel, rfl, by decide +kernel, by decide +kernel⟩
set_option maxHeartbeats 8000000 in
theorem ok__law_letters_right {f fLe fLx fSs fRs fAl : Addr} {fd fdLe fdLx fdSs fdRs fdAl : FuncData}   (F : Fun K "_law_letters_right" "_law_letters_right" a__law_letters_right f fd) (Le : Kn P w K mg base 4 "_law_letter" ["_law_pot_here"] spLLet fLe fdLe) (Lx : Kn P w K mg base 3 "_law_letter_text" ["_law_letter_here"] spShLet fLx fdLx) (Ss : Kn P w K mg base 3 "show_letter" ["letter"] spShLet fSs fdSs) (Rs : Kn P w K mg base 5 "read_letter" ["text"] spRdLet fRs fdRs) (Al : FnG P w K mg base 1 fAl fdAl ["_law_found", "_law_due"] (spAlike K)) (gAl : mg "_law_alike" = some (.ref fAl)) (kAl : PySem.W.keepIn K (.ref fAl) = true) (bAl : Binds K fdAl ["_law_found", "_law_due"] [])  (m_range : mg "range" = none) : FnG P w K mg base 7 f fd ["_law_pot_here"] (spLR 400) := by
  refine fnG F sc__law_letters_right (fun vs H Q E h => ?_) (fun cdv A outer s H vs Q E hG hr h => ?_)
  · obtain ⟨p, c, rfl, _⟩ := h
    rfl
  · obtain ⟨p, c, rfl, pp, hc, q⟩ := h
    refine ⟨_, (pss_cons (ps_for PassesOwn.never rfl (pi_range1 (by rfl) m_range (pa_cons pe_int pa_nil)) (pg_name (i := 1) sc__law_letters_right.nd rfl (.inl rfl))
        (pss_cons (ps_set (i := 2) sc__law_letters_right.nd rfl (.inl rfl) (pe_kn Le hr (by omega) (pa_cons (pv 0) pa_nil)))
      (pss_cons (ps_set (i := 3) sc__law_letters_right.nd rfl (.inl rfl) (pe_kn Lx hr (by omega) (pa_cons (pv 2) pa_nil)))
      (pss_cons (ps_if (pt_cmpR op_ne (pe_kn Ss hr (by omega) (pa_cons (pv 2) pa_nil)) (pv 3) (nomark _)) (pss_one (ps_ret pe_bl)) pss_nil)
      (pss_one (ps_if (pt_not (pt_val (pe_callG hG Al (hr.mono (by omega)) (by rfl) gAl kAl bAl (pa_cons (pe_kn Rs hr (by omega) (pa_cons (pv 3) pa_nil)) (pa_cons (pv 2) pa_nil))))) (pss_one (ps_ret pe_bl)) pss_nil))))))
      (pss_one (ps_ret pe_bl))), ?_⟩
    refine ⟨6, rfl, by decide, by decide, for_it walk_range (fun i σ H' => (∃ u1 u2 u3, σ = [some (.ref p), u1, u2, u3]) ∧ But p H H' ∧ PotAt H' p (c + 50 * i)) ⟨⟨_, _, _, rfl⟩, fun _ _ _ e => e, pp⟩ (fun _ _ _ _ _ => trivial) (fun i v σ H1' H1 hi y z => ?_) (fun σ H1 y => ?_)⟩
    · obtain ⟨⟨u1, u2, u3, rfl⟩, b1, p1⟩ := y
      obtain ⟨rfl, rfl⟩ := z
      have i6 : i < 6 := hi
      dsimp only [List.set]
      refine ⟨.ref p, rfl, p, _, rfl, p1, by omega, fun H2 g l b2 p2 hl lp => ?_⟩
      dsimp only [List.set]
      refine ⟨_, rfl, g, l, rfl, hl, lp, fun H3 s3 => ?_⟩
      dsimp only [List.set]
      refine ⟨_, rfl, g, l, rfl, hl.keep (.same s3), lp, fun H4 s4 => ⟨_, rfl, rfl, _, rfl, iteNS rfl ?_⟩⟩
      have s24 := s3.trans s4
      refine ⟨_, rfl, l, rfl, lp, fun H5 g5 s5 e5 => ⟨_, rfl, g5, g, ltD l, rfl, dp_let e5, dp_let (hl.keep (.same (s24.trans s5))), show_let lp, true, rfl, iteF ?_⟩⟩
      exact ⟨⟨_, _, _, rfl⟩, (b1.trans b2).trans (But.of (s24.trans s5)), (p2.keep (s24.trans s5)).mono (by omega)⟩
    · obtain ⟨⟨u1, u2, u3, rfl⟩, b1, p1⟩ := y
      exact q H1 b1 (p1.mono (by show c + 50 * 6 ≤ c + 400; omega))
end
end K70

set_option Elab.async false
set_option linter.all false
set_option maxRecDepth 100000
namespace K70
open PySem PySem.Spec PyProof.Rows L2 NB
def spLaw (K : PySem.W.Frag) : Sp := fun vs H Q _ => ∃ (a : Addr) (ns : List Int), vs = [.ref a] ∧ SqL K H a (ns.map V.int) ∧ ns.length ≤ 63 ∧ ∀ H', Q (.bl true) H'
section
variable {P : Program} {w : World} {K : PySem.W.Frag} {mg : Str → Option Value} {base : Heap}
abbrev a_law : Stmt := topS 75
abbrev n_law : List Str := ["_law_script", "_law_k", "_law_pot_here", "_law_plan"]
theorem sc_law : FnScope n_law ["_law_script"] (defScope a_law) := ⟨rfl, rfl, rfl, by decide +kernel, rfl, by decide +kernel, by decide +kernel⟩
set_option maxHeartbeats 8000000 in
theorem ok_law {f fPo fWi2 fRr fSr fWr fYr fLr : Addr} {fd fdPo fdWi2 fdRr fdSr fdWr fdYr fdLr : FuncData}  {C f0 e0 : Addr} {fd0 : FuncData} {ds0 : List Value} (F : Fun K "law" "law" a_law f fd) (Po : Kn P w K mg base 1 "_law_pot" ["_law_script", "_law_k"] (spPot K) fPo fdPo) (Wi2 : Kn P w K mg base 3 "_law_wide_tops" ["_law_pot_here"] (spWide K) fWi2 fdWi2) (Rr : FnG P w K mg base 8 fRr fdRr ["_law_pot_here", "_law_plan"] (spPR C 20)) (gRr : mg "_law_rules_right" = some (.ref fRr)) (kRr : PySem.W.keepIn K (.ref fRr) = true) (bRr : Binds K fdRr ["_law_pot_here", "_law_plan"] []) (Sr : FnG P w K mg base 8 fSr fdSr ["_law_pot_here", "_law_plan"] (spPR C 50)) (gSr : mg "_law_standings_right" = some (.ref fSr)) (kSr : PySem.W.keepIn K (.ref fSr) = true) (bSr : Binds K fdSr ["_law_pot_here", "_law_plan"] []) (Wr : FnG P w K mg base 8 fWr fdWr ["_law_pot_here", "_law_plan"] (spPR C 300)) (gWr : mg "_law_wants_right" = some (.ref fWr)) (kWr : PySem.W.keepIn K (.ref fWr) = true) (bWr : Binds K fdWr ["_law_pot_here", "_law_plan"] []) (Yr : Kn P w K mg base 4 "_law_ways_right" ["_law_pot_here", "_law_tops"] (spWR 200) fYr fdYr) (Lr : FnG P w K mg base 7 fLr fdLr ["_law_pot_here"] (spLR 400)) (gLr : mg "_law_letters_right" = some (.ref fLr)) (kLr : PySem.W.keepIn K (.ref fLr) = true) (bLr : Binds K fdLr ["_law_pot_here"] []) (X : PlanTxt K mg C) (M : Mk K C f0) (GI : FnOk P w K mg base CX0 7 f0 fd0 ["self", "tops", "rules"] (spInit0 K C)) (bI : Binds K fd0 ["self", "tops", "rules"] ds0) (rd : Vals [V.ref e0] ds0) (hE0 : ∀ H, SqT K H e0 []) (tE0 : ∀ H, TyX K H (.ref e0) (.type "tuple")) (m_len : mg "len" = none) (m_max : mg "max" = none) (m_min : mg "min" = none) (m_range : mg "range" = none) : FnG P w K mg base 10 f fd ["_law_script"] (spLaw K) := by
  refine fnG F sc_law (fun vs H Q E h => ?_) (fun cdv A outer s H vs Q E hG hr h => ?_)
  · obtain ⟨a, ns, rfl, _⟩ := h
    rfl
  · obtain ⟨a, ns, rfl, hS, hn, q⟩ := h
    refine ⟨_, (pss_cons (ps_for PassesOwn.never rfl (pi_range1 (by rfl) m_range (pa_cons (pe_callB (call_max2 rfl) (by rfl) m_max (by decide +kernel) (pa_cons pe_int (pa_cons (pe_callB (call_min2 rfl) (by rfl) m_min (by decide +kernel) (pa_cons pe_int (pa_cons (pe_callB call_len_seq (by rfl) m_len (by decide +kernel) (pa_cons (pv 0) pa_nil)) pa_nil))) pa_nil))) pa_nil)) (pg_name (i := 1) sc_law.nd rfl (.inl rfl))
        (pss_cons (ps_set (i := 2) sc_law.nd rfl (.inl rfl) (pe_kn Po hr (by omega) (pa_cons (pv 0) (pa_cons (pv 1) pa_nil))))
      (pss_cons (ps_set (i := 3) sc_law.nd rfl (.inl rfl) (pe_make M GI (hr.mono (by omega)) (by rfl) X.mgC bI rd pass0 (pa_cons (pe_kn Wi2 hr (by omega) (pa_cons (pv 2) pa_nil)) pa_nil)))
      (pss_cons (ps_if (PW.pt (pw_or (pt_not (pt_val (pe_callG hG Rr (hr.mono (by omega)) (by rfl) gRr kRr bRr (pa_cons (pv 2) (pa_cons (pv 3) pa_nil))))) (pw_or (pt_not (pt_val (pe_callG hG Sr (hr.mono (by omega)) (by rfl) gSr kSr bSr (pa_cons (pv 2) (pa_cons (pv 3) pa_nil))))) (pw_or1 (pt_not (pt_val (pe_callG hG Wr (hr.mono (by omega)) (by rfl) gWr kWr bWr (pa_cons (pv 2) (pa_cons (pv 3) pa_nil))))))))) (pss_one (ps_ret pe_bl)) pss_nil)
      (pss_one (ps_if (PW.pt (pw_or (pt_not (pt_val (pe_kn Yr hr (by omega) (pa_cons (pv 2) (pa_cons (pe_fld (pv 3) rfl) pa_nil))))) (pw_or1 (pt_not (pt_val (pe_callG hG Lr (hr.mono (by omega)) (by rfl) gLr kLr bLr (pa_cons (pv 2) pa_nil))))))) (pss_one (ps_ret pe_bl)) pss_nil))))))
      (pss_one (ps_ret pe_bl))), ?_⟩
    refine ⟨.ref a, rfl, a, _, rfl, .inl hS, 3, _, rfl, 1, _, rfl, _, rfl, ?_, ?_, for_it walk_range (fun i σ H' => (∃ u1 u2 u3, σ = [some (.ref a), u1, u2, u3]) ∧ Same H H') ⟨⟨_, _, _, rfl⟩, Same.refl H⟩ (fun _ _ _ _ _ => trivial) (fun i v σ H0' H0 hi y z => ?_) (fun σ H0 y => q H0)⟩
    · split <;> omega
    · split <;> omega
    obtain ⟨⟨u1, u2, u3, rfl⟩, s0⟩ := y
    obtain ⟨rfl, rfl⟩ := z
    have i5 : i < 4 := by
      revert hi
      split <;> intro hi <;> omega
    refine ⟨.ref a, rfl, _, rfl, a, ns, i, by show [V.ref a, V.int (0 + (i : Int))] = _; rw [Int.zero_add], s0.seq hS, by omega, fun H2 p t2 n2 q2 => ?_⟩
    have npH : H p = none := s0.free n2
    have s2 := s0.trans t2
    dsimp only [List.set]
    refine ⟨_, rfl, p, 0, rfl, q2, by omega, fun H3 t tops b3 p3 _ et l2 l12 pl => ?_⟩
    refine fun x dx nx ndx ne => ?_
    have x1 : Same H3 (upd (upd H3 dx (.own x)) x (.ins C dx [])) := (same_new ndx).trans (same_new (by rw [upd_ne ne.symm]; exact nx))
    refine ⟨x, dx, t, e0, tops, rfl, upd_same, x1 _ _ et, by omega, l12, pl, hE0, tE0, fun H4 k4 ex4 => ⟨rfl, ?_⟩⟩
    have s4 : Same H3 H4 := fun b o e => k4 b o (ne_of_none e nx) (x1 b o e)
    have px : TopsAt C H4 x t tops := ⟨dx, e0, ex4, s4 _ _ et⟩
    have b04 : But p H2 H4 := b3.trans (But.of s4)
    have p4 := p3.keep s4
    clear x1 k4 s4 b3 p3
    dsimp only [List.set]
    refine ⟨_, rfl, _, rfl, p, x, t, tops, _, rfl, p4, by omega, px, by omega, l12, pl, fun H5 b5 p5 => ⟨true, rfl, iteF ?_⟩⟩
    have px5 := px.keep (Keep.but b5 p4)
    refine ⟨_, rfl, _, rfl, p, x, t, tops, _, rfl, p5, by omega, px5, by omega, l12, pl, fun H6 b6 p6 => ⟨true, rfl, iteF ?_⟩⟩
    have px6 := px5.keep (Keep.but b6 p5)
    refine ⟨_, rfl, _, rfl, p, x, t, tops, _, rfl, p6, by omega, px6, by omega, l12, pl, fun H7 b7 p7 => ⟨true, rfl, iteF ?_⟩⟩
    have px7 := px6.keep (Keep.but b7 p6)
    have px7' := px7
    obtain ⟨dx7, R7, ex7, et7⟩ := px7'
    refine ⟨_, rfl, .ref x, rfl, x, C, dx7, _, _, rfl, ex7, X.cl, X.nT, look_tops _ _, p, t, tops, _, rfl, p7, by omega, et7, by omega, l12, pl, fun H8 b8 p8 => ⟨true, rfl, iteF ?_⟩⟩
    refine ⟨_, rfl, p, _, rfl, p8, by omega, fun H9 b9 p9 => ⟨true, rfl, iteF ?_⟩⟩
    have b29 := b04.trans (b5.trans (b6.trans (b7.trans (b8.trans b9))))
    exact ⟨⟨_, _, _, rfl⟩, fun b o e => b29 b o (ne_of_none e npH) (s2 b o e)⟩
end
end K70

set_option Elab.async false
set_option linter.all false
set_option maxRecDepth 100000
namespace K70
open PySem PySem.Spec PyProof.Rows L2 NB
set_option maxHeartbeats 8000000 in
theorem all_mk {l : PySem.W.OpenLaw} {w : World} {K : PySem.W.Frag} {h : Heap} {mg : Str → Option Value} {fa : Addr} (X : K.In h) (G : h.Ns mainGlobals mg) (hfa : mg "law" = some (.ref fa))
    {f1 : Addr} {od1 an1 : Option Addr} {sl1 : Array (Option Value)} {oc1 kV1 dc1 pm1 cd1 ct1 : Value}
    {f2 : Addr} {od2 an2 : Option Addr} {sl2 : Array (Option Value)} {oc2 kV2 dc2 pm2 cd2 ct2 : Value}
    {f3 : Addr} {od3 an3 : Option Addr} {sl3 : Array (Option Value)} {oc3 kV3 dc3 pm3 cd3 ct3 : Value}
    {f4 : Addr} {od4 an4 : Option Addr} {sl4 : Array (Option Value)} {oc4 kV4 dc4 pm4 cd4 ct4 : Value}
    {f5 : Addr} {od5 an5 : Option Addr} {sl5 : Array (Option Value)} {oc5 kV5 dc5 pm5 cd5 ct5 : Value}
    {f6 : Addr} {od6 an6 : Option Addr} {sl6 : Array (Option Value)} {oc6 kV6 dc6 pm6 cd6 ct6 : Value}
    {f7 : Addr} {od7 an7 : Option Addr} {sl7 : Array (Option Value)} {oc7 kV7 dc7 pm7 cd7 ct7 : Value}
    {f8 : Addr} {od8 an8 : Option Addr} {sl8 : Array (Option Value)} {oc8 kV8 dc8 pm8 cd8 ct8 : Value}
    {f9 : Addr} {od9 an9 : Option Addr} {sl9 : Array (Option Value)} {oc9 kV9 dc9 pm9 cd9 ct9 : Value}
    {f10 : Addr} {od10 an10 : Option Addr} {sl10 : Array (Option Value)} {oc10 kV10 dc10 pm10 cd10 ct10 : Value}
    {f11 : Addr} {od11 an11 : Option Addr} {sl11 : Array (Option Value)} {oc11 kV11 dc11 pm11 cd11 ct11 : Value}
    {f12 : Addr} {od12 an12 : Option Addr} {sl12 : Array (Option Value)} {oc12 kV12 dc12 pm12 cd12 ct12 : Value}
    {f13 : Addr} {od13 an13 : Option Addr} {sl13 : Array (Option Value)} {oc13 kV13 dc13 pm13 cd13 ct13 : Value}
    {f14 : Addr} {od14 an14 : Option Addr} {sl14 : Array (Option Value)} {oc14 kV14 dc14 pm14 cd14 ct14 : Value}
    {f15 : Addr} {od15 an15 : Option Addr} {sl15 : Array (Option Value)} {oc15 kV15 dc15 pm15 cd15 ct15 : Value}
    {f16 : Addr} {od16 an16 : Option Addr} {sl16 : Array (Option Value)} {oc16 kV16 dc16 pm16 cd16 ct16 : Value}
    {f17 : Addr} {od17 an17 : Option Addr} {sl17 : Array (Option Value)} {oc17 kV17 dc17 pm17 cd17 ct17 : Value}
    {f18 : Addr} {od18 an18 : Option Addr} {sl18 : Array (Option Value)} {oc18 kV18 dc18 pm18 cd18 ct18 : Value}
    {f19 : Addr} {od19 an19 : Option Addr} {sl19 : Array (Option Value)} {oc19 kV19 dc19 pm19 cd19 ct19 : Value}
    {f20 : Addr} {od20 an20 : Option Addr} {sl20 : Array (Option Value)} {oc20 kV20 dc20 pm20 cd20 ct20 : Value}
    {f21 : Addr} {od21 an21 : Option Addr} {sl21 : Array (Option Value)} {oc21 kV21 dc21 pm21 cd21 ct21 : Value}
    {f22 : Addr} {od22 an22 : Option Addr} {sl22 : Array (Option Value)} {oc22 kV22 dc22 pm22 cd22 ct22 : Value}
    {f23 : Addr} {od23 an23 : Option Addr} {sl23 : Array (Option Value)} {oc23 kV23 dc23 pm23 cd23 ct23 : Value}
    {f24 : Addr} {od24 an24 : Option Addr} {sl24 : Array (Option Value)} {oc24 kV24 dc24 pm24 cd24 ct24 : Value}
    {f25 : Addr} {od25 an25 : Option Addr} {sl25 : Array (Option Value)} {oc25 kV25 dc25 pm25 cd25 ct25 : Value}
    {f26 : Addr} {od26 an26 : Option Addr} {sl26 : Array (Option Value)} {oc26 kV26 dc26 pm26 cd26 ct26 : Value}
    {f27 : Addr} {od27 an27 : Option Addr} {sl27 : Array (Option Value)} {oc27 kV27 dc27 pm27 cd27 ct27 : Value}
    {f28 : Addr} {od28 an28 : Option Addr} {sl28 : Array (Option Value)} {oc28 kV28 dc28 pm28 cd28 ct28 : Value}
    {f29 : Addr} {od29 an29 : Option Addr} {sl29 : Array (Option Value)} {oc29 kV29 dc29 pm29 cd29 ct29 : Value}
    {f30 : Addr} {od30 an30 : Option Addr} {sl30 : Array (Option Value)} {oc30 kV30 dc30 pm30 cd30 ct30 : Value}
    {f31 : Addr} {od31 an31 : Option Addr} {sl31 : Array (Option Value)} {oc31 kV31 dc31 pm31 cd31 ct31 : Value}
    {f32 : Addr} {od32 an32 : Option Addr} {sl32 : Array (Option Value)} {oc32 kV32 dc32 pm32 cd32 ct32 : Value}
    {f33 : Addr} {od33 an33 : Option Addr} {sl33 : Array (Option Value)} {oc33 kV33 dc33 pm33 cd33 ct33 : Value}
    {f34 : Addr} {od34 an34 : Option Addr} {sl34 : Array (Option Value)} {oc34 kV34 dc34 pm34 cd34 ct34 : Value}
    {f35 : Addr} {od35 an35 : Option Addr} {sl35 : Array (Option Value)} {oc35 kV35 dc35 pm35 cd35 ct35 : Value}
    {f36 : Addr} {od36 an36 : Option Addr} {sl36 : Array (Option Value)} {oc36 kV36 dc36 pm36 cd36 ct36 : Value}
    {f37 : Addr} {od37 an37 : Option Addr} {sl37 : Array (Option Value)} {oc37 kV37 dc37 pm37 cd37 ct37 : Value}
    {f38 : Addr} {od38 an38 : Option Addr} {sl38 : Array (Option Value)} {oc38 kV38 dc38 pm38 cd38 ct38 : Value}
    {f39 : Addr} {od39 an39 : Option Addr} {sl39 : Array (Option Value)} {oc39 kV39 dc39 pm39 cd39 ct39 : Value}
    {f40 : Addr} {od40 an40 : Option Addr} {sl40 : Array (Option Value)} {oc40 kV40 dc40 pm40 cd40 ct40 : Value}
    {f41 : Addr} {od41 an41 : Option Addr} {sl41 : Array (Option Value)} {oc41 kV41 dc41 pm41 cd41 ct41 : Value}
    {f42 : Addr} {od42 an42 : Option Addr} {sl42 : Array (Option Value)} {oc42 kV42 dc42 pm42 cd42 ct42 : Value}
    {f43 : Addr} {od43 an43 : Option Addr} {sl43 : Array (Option Value)} {oc43 kV43 dc43 pm43 cd43 ct43 : Value}
    {f44 : Addr} {od44 an44 : Option Addr} {sl44 : Array (Option Value)} {oc44 kV44 dc44 pm44 cd44 ct44 : Value}
    {f45 : Addr} {od45 an45 : Option Addr} {sl45 : Array (Option Value)} {oc45 kV45 dc45 pm45 cd45 ct45 : Value}
    {f46 : Addr} {od46 an46 : Option Addr} {sl46 : Array (Option Value)} {oc46 kV46 dc46 pm46 cd46 ct46 : Value}
    {f47 : Addr} {od47 an47 : Option Addr} {sl47 : Array (Option Value)} {oc47 kV47 dc47 pm47 cd47 ct47 : Value}
    {f48 : Addr} {od48 an48 : Option Addr} {sl48 : Array (Option Value)} {oc48 kV48 dc48 pm48 cd48 ct48 : Value}
    {f49 : Addr} {od49 an49 : Option Addr} {sl49 : Array (Option Value)} {oc49 kV49 dc49 pm49 cd49 ct49 : Value}
    {f50 : Addr} {od50 an50 : Option Addr} {sl50 : Array (Option Value)} {oc50 kV50 dc50 pm50 cd50 ct50 : Value}
    {f51 : Addr} {od51 an51 : Option Addr} {sl51 : Array (Option Value)} {oc51 kV51 dc51 pm51 cd51 ct51 : Value}
    {f52 : Addr} {od52 an52 : Option Addr} {sl52 : Array (Option Value)} {oc52 kV52 dc52 pm52 cd52 ct52 : Value}
    {f53 : Addr} {od53 an53 : Option Addr} {sl53 : Array (Option Value)} {oc53 kV53 dc53 pm53 cd53 ct53 : Value}
    {f54 : Addr} {od54 an54 : Option Addr} {sl54 : Array (Option Value)} {oc54 kV54 dc54 pm54 cd54 ct54 : Value}
    {f55 : Addr} {od55 an55 : Option Addr} {sl55 : Array (Option Value)} {oc55 kV55 dc55 pm55 cd55 ct55 : Value}
    {f56 : Addr} {od56 an56 : Option Addr} {sl56 : Array (Option Value)} {oc56 kV56 dc56 pm56 cd56 ct56 : Value}
    {C f0 Td e0 wa : Addr} {od0 an0 odT odW : Option Addr} {sl0 slT slW : Array (Option Value)} {oc0 kV0 dc0 pm0 cd0 ct0 ocT : Value} {nT nW : Nat} {tk1 tk2 tk3 tk4 tk5 : Tok}
    (a1 : PySem.W.nsIn K mainGlobals "show_side" = some (some (.ref f1)))
    (l1 : K.lookup f1 = some ⟨oc1, od1, .func (PySem.W.fnOf "show_side" "show_side" (defArgs a_show_side) (defBody a_show_side) (defScope a_show_side) .none kV1 dc1 pm1 an1 cd1 ct1), sl1⟩)
    (c1 : PySem.W.codeIn K cd1 "show_side" = true) (k1 : PySem.W.keepIn K (.ref f1) = true)
    (a2 : PySem.W.nsIn K mainGlobals "show_rule" = some (some (.ref f2)))
    (l2 : K.lookup f2 = some ⟨oc2, od2, .func (PySem.W.fnOf "show_rule" "show_rule" (defArgs a_show_rule) (defBody a_show_rule) (defScope a_show_rule) .none kV2 dc2 pm2 an2 cd2 ct2), sl2⟩)
    (c2 : PySem.W.codeIn K cd2 "show_rule" = true) (k2 : PySem.W.keepIn K (.ref f2) = true)
    (a3 : PySem.W.nsIn K mainGlobals "show_standing" = some (some (.ref f3)))
    (l3 : K.lookup f3 = some ⟨oc3, od3, .func (PySem.W.fnOf "show_standing" "show_standing" (defArgs a_show_standing) (defBody a_show_standing) (defScope a_show_standing) .none kV3 dc3 pm3 an3 cd3 ct3), sl3⟩)
    (c3 : PySem.W.codeIn K cd3 "show_standing" = true) (k3 : PySem.W.keepIn K (.ref f3) = true)
    (a4 : PySem.W.nsIn K mainGlobals "show_want" = some (some (.ref f4)))
    (l4 : K.lookup f4 = some ⟨oc4, od4, .func (PySem.W.fnOf "show_want" "show_want" (defArgs a_show_want) (defBody a_show_want) (defScope a_show_want) .none kV4 dc4 pm4 an4 cd4 ct4), sl4⟩)
    (c4 : PySem.W.codeIn K cd4 "show_want" = true) (k4 : PySem.W.keepIn K (.ref f4) = true)
    (a5 : PySem.W.nsIn K mainGlobals "show_way" = some (some (.ref f5)))
    (l5 : K.lookup f5 = some ⟨oc5, od5, .func (PySem.W.fnOf "show_way" "show_way" (defArgs a_show_way) (defBody a_show_way) (defScope a_show_way) .none kV5 dc5 pm5 an5 cd5 ct5), sl5⟩)
    (c5 : PySem.W.codeIn K cd5 "show_way" = true) (k5 : PySem.W.keepIn K (.ref f5) = true)
    (a6 : PySem.W.nsIn K mainGlobals "show_wish" = some (some (.ref f6)))
    (l6 : K.lookup f6 = some ⟨oc6, od6, .func (PySem.W.fnOf "show_wish" "show_wish" (defArgs a_show_wish) (defBody a_show_wish) (defScope a_show_wish) .none kV6 dc6 pm6 an6 cd6 ct6), sl6⟩)
    (c6 : PySem.W.codeIn K cd6 "show_wish" = true) (k6 : PySem.W.keepIn K (.ref f6) = true)
    (a7 : PySem.W.nsIn K mainGlobals "show_letter" = some (some (.ref f7)))
    (l7 : K.lookup f7 = some ⟨oc7, od7, .func (PySem.W.fnOf "show_letter" "show_letter" (defArgs a_show_letter) (defBody a_show_letter) (defScope a_show_letter) .none kV7 dc7 pm7 an7 cd7 ct7), sl7⟩)
    (c7 : PySem.W.codeIn K cd7 "show_letter" = true) (k7 : PySem.W.keepIn K (.ref f7) = true)
    (a8 : PySem.W.nsIn K mainGlobals "plan_rows" = some (some (.ref f8)))
    (l8 : K.lookup f8 = some ⟨oc8, od8, .func (PySem.W.fnOf "plan_rows" "plan_rows" (defArgs a_plan_rows) (defBody a_plan_rows) (defScope a_plan_rows) .none kV8 dc8 pm8 an8 cd8 ct8), sl8⟩)
    (c8 : PySem.W.codeIn K cd8 "plan_rows" = true) (k8 : PySem.W.keepIn K (.ref f8) = true)
    (a9 : PySem.W.nsIn K mainGlobals "is_whole" = some (some (.ref f9)))
    (l9 : K.lookup f9 = some ⟨oc9, od9, .func (PySem.W.fnOf "is_whole" "is_whole" (defArgs a_is_whole) (defBody a_is_whole) (defScope a_is_whole) .none kV9 dc9 pm9 an9 cd9 ct9), sl9⟩)
    (c9 : PySem.W.codeIn K cd9 "is_whole" = true) (k9 : PySem.W.keepIn K (.ref f9) = true)
    (a10 : PySem.W.nsIn K mainGlobals "is_place" = some (some (.ref f10)))
    (l10 : K.lookup f10 = some ⟨oc10, od10, .func (PySem.W.fnOf "is_place" "is_place" (defArgs kPlace) (defBody kPlace) (defScope kPlace) .none kV10 dc10 pm10 an10 cd10 ct10), sl10⟩)
    (c10 : PySem.W.codeIn K cd10 "is_place" = true) (k10 : PySem.W.keepIn K (.ref f10) = true)
    (a11 : PySem.W.nsIn K mainGlobals "are_tops" = some (some (.ref f11)))
    (l11 : K.lookup f11 = some ⟨oc11, od11, .func (PySem.W.fnOf "are_tops" "are_tops" (defArgs kTops) (defBody kTops) (defScope kTops) .none kV11 dc11 pm11 an11 cd11 ct11), sl11⟩)
    (c11 : PySem.W.codeIn K cd11 "are_tops" = true) (k11 : PySem.W.keepIn K (.ref f11) = true)
    (a12 : PySem.W.nsIn K mainGlobals "is_side_of" = some (some (.ref f12)))
    (l12 : K.lookup f12 = some ⟨oc12, od12, .func (PySem.W.fnOf "is_side_of" "is_side_of" (defArgs kSide) (defBody kSide) (defScope kSide) .none kV12 dc12 pm12 an12 cd12 ct12), sl12⟩)
    (c12 : PySem.W.codeIn K cd12 "is_side_of" = true) (k12 : PySem.W.keepIn K (.ref f12) = true)
    (a13 : PySem.W.nsIn K mainGlobals "are_sides_of" = some (some (.ref f13)))
    (l13 : K.lookup f13 = some ⟨oc13, od13, .func (PySem.W.fnOf "are_sides_of" "are_sides_of" (defArgs kSides) (defBody kSides) (defScope kSides) .none kV13 dc13 pm13 an13 cd13 ct13), sl13⟩)
    (c13 : PySem.W.codeIn K cd13 "are_sides_of" = true) (k13 : PySem.W.keepIn K (.ref f13) = true)
    (a14 : PySem.W.nsIn K mainGlobals "is_rule_of" = some (some (.ref f14)))
    (l14 : K.lookup f14 = some ⟨oc14, od14, .func (PySem.W.fnOf "is_rule_of" "is_rule_of" (defArgs kRule) (defBody kRule) (defScope kRule) .none kV14 dc14 pm14 an14 cd14 ct14), sl14⟩)
    (c14 : PySem.W.codeIn K cd14 "is_rule_of" = true) (k14 : PySem.W.keepIn K (.ref f14) = true)
    (a15 : PySem.W.nsIn K mainGlobals "are_rules_of" = some (some (.ref f15)))
    (l15 : K.lookup f15 = some ⟨oc15, od15, .func (PySem.W.fnOf "are_rules_of" "are_rules_of" (defArgs a_are_rules_of) (defBody a_are_rules_of) (defScope a_are_rules_of) .none kV15 dc15 pm15 an15 cd15 ct15), sl15⟩)
    (c15 : PySem.W.codeIn K cd15 "are_rules_of" = true) (k15 : PySem.W.keepIn K (.ref f15) = true)
    (a16 : PySem.W.nsIn K mainGlobals "is_count" = some (some (.ref f16)))
    (l16 : K.lookup f16 = some ⟨oc16, od16, .func (PySem.W.fnOf "is_count" "is_count" (defArgs a_is_count) (defBody a_is_count) (defScope a_is_count) .none kV16 dc16 pm16 an16 cd16 ct16), sl16⟩)
    (c16 : PySem.W.codeIn K cd16 "is_count" = true) (k16 : PySem.W.keepIn K (.ref f16) = true)
    (a17 : PySem.W.nsIn K mainGlobals "is_wish" = some (some (.ref f17)))
    (l17 : K.lookup f17 = some ⟨oc17, od17, .func (PySem.W.fnOf "is_wish" "is_wish" (defArgs a_is_wish) (defBody a_is_wish) (defScope a_is_wish) .none kV17 dc17 pm17 an17 cd17 ct17), sl17⟩)
    (c17 : PySem.W.codeIn K cd17 "is_wish" = true) (k17 : PySem.W.keepIn K (.ref f17) = true)
    (a18 : PySem.W.nsIn K mainGlobals "is_letter" = some (some (.ref f18)))
    (l18 : K.lookup f18 = some ⟨oc18, od18, .func (PySem.W.fnOf "is_letter" "is_letter" (defArgs a_is_letter) (defBody a_is_letter) (defScope a_is_letter) .none kV18 dc18 pm18 an18 cd18 ct18), sl18⟩)
    (c18 : PySem.W.codeIn K cd18 "is_letter" = true) (k18 : PySem.W.keepIn K (.ref f18) = true)
    (a19 : PySem.W.nsIn K mainGlobals "is_standing" = some (some (.ref f19)))
    (l19 : K.lookup f19 = some ⟨oc19, od19, .func (PySem.W.fnOf "is_standing" "is_standing" (defArgs kIsSt) (defBody kIsSt) (defScope kIsSt) .none kV19 dc19 pm19 an19 cd19 ct19), sl19⟩)
    (c19 : PySem.W.codeIn K cd19 "is_standing" = true) (k19 : PySem.W.keepIn K (.ref f19) = true)
    (a20 : PySem.W.nsIn K mainGlobals "is_want" = some (some (.ref f20)))
    (l20 : K.lookup f20 = some ⟨oc20, od20, .func (PySem.W.fnOf "is_want" "is_want" (defArgs a_is_want) (defBody a_is_want) (defScope a_is_want) .none kV20 dc20 pm20 an20 cd20 ct20), sl20⟩)
    (c20 : PySem.W.codeIn K cd20 "is_want" = true) (k20 : PySem.W.keepIn K (.ref f20) = true)
    (a21 : PySem.W.nsIn K mainGlobals "is_number" = some (some (.ref f21)))
    (l21 : K.lookup f21 = some ⟨oc21, od21, .func (PySem.W.fnOf "is_number" "is_number" (defArgs a_is_number) (defBody a_is_number) (defScope a_is_number) .none kV21 dc21 pm21 an21 cd21 ct21), sl21⟩)
    (c21 : PySem.W.codeIn K cd21 "is_number" = true) (k21 : PySem.W.keepIn K (.ref f21) = true)
    (a22 : PySem.W.nsIn K mainGlobals "are_numbers" = some (some (.ref f22)))
    (l22 : K.lookup f22 = some ⟨oc22, od22, .func (PySem.W.fnOf "are_numbers" "are_numbers" (defArgs a_are_numbers) (defBody a_are_numbers) (defScope a_are_numbers) .none kV22 dc22 pm22 an22 cd22 ct22), sl22⟩)
    (c22 : PySem.W.codeIn K cd22 "are_numbers" = true) (k22 : PySem.W.keepIn K (.ref f22) = true)
    (a23 : PySem.W.nsIn K mainGlobals "is_side_text" = some (some (.ref f23)))
    (l23 : K.lookup f23 = some ⟨oc23, od23, .func (PySem.W.fnOf "is_side_text" "is_side_text" (defArgs a_is_side_text) (defBody a_is_side_text) (defScope a_is_side_text) .none kV23 dc23 pm23 an23 cd23 ct23), sl23⟩)
    (c23 : PySem.W.codeIn K cd23 "is_side_text" = true) (k23 : PySem.W.keepIn K (.ref f23) = true)
    (a24 : PySem.W.nsIn K mainGlobals "is_rule_text" = some (some (.ref f24)))
    (l24 : K.lookup f24 = some ⟨oc24, od24, .func (PySem.W.fnOf "is_rule_text" "is_rule_text" (defArgs a_is_rule_text) (defBody a_is_rule_text) (defScope a_is_rule_text) .none kV24 dc24 pm24 an24 cd24 ct24), sl24⟩)
    (c24 : PySem.W.codeIn K cd24 "is_rule_text" = true) (k24 : PySem.W.keepIn K (.ref f24) = true)
    (a25 : PySem.W.nsIn K mainGlobals "is_want_text" = some (some (.ref f25)))
    (l25 : K.lookup f25 = some ⟨oc25, od25, .func (PySem.W.fnOf "is_want_text" "is_want_text" (defArgs a_is_want_text) (defBody a_is_want_text) (defScope a_is_want_text) .none kV25 dc25 pm25 an25 cd25 ct25), sl25⟩)
    (c25 : PySem.W.codeIn K cd25 "is_want_text" = true) (k25 : PySem.W.keepIn K (.ref f25) = true)
    (a26 : PySem.W.nsIn K mainGlobals "numbers_in" = some (some (.ref f26)))
    (l26 : K.lookup f26 = some ⟨oc26, od26, .func (PySem.W.fnOf "numbers_in" "numbers_in" (defArgs a_numbers_in) (defBody a_numbers_in) (defScope a_numbers_in) .none kV26 dc26 pm26 an26 cd26 ct26), sl26⟩)
    (c26 : PySem.W.codeIn K cd26 "numbers_in" = true) (k26 : PySem.W.keepIn K (.ref f26) = true)
    (a27 : PySem.W.nsIn K mainGlobals "side_in" = some (some (.ref f27)))
    (l27 : K.lookup f27 = some ⟨oc27, od27, .func (PySem.W.fnOf "side_in" "side_in" (defArgs a_side_in) (defBody a_side_in) (defScope a_side_in) .none kV27 dc27 pm27 an27 cd27 ct27), sl27⟩)
    (c27 : PySem.W.codeIn K cd27 "side_in" = true) (k27 : PySem.W.keepIn K (.ref f27) = true)
    (a28 : PySem.W.nsIn K mainGlobals "rule_in" = some (some (.ref f28)))
    (l28 : K.lookup f28 = some ⟨oc28, od28, .func (PySem.W.fnOf "rule_in" "rule_in" (defArgs a_rule_in) (defBody a_rule_in) (defScope a_rule_in) .none kV28 dc28 pm28 an28 cd28 ct28), sl28⟩)
    (c28 : PySem.W.codeIn K cd28 "rule_in" = true) (k28 : PySem.W.keepIn K (.ref f28) = true)
    (a29 : PySem.W.nsIn K mainGlobals "want_in" = some (some (.ref f29)))
    (l29 : K.lookup f29 = some ⟨oc29, od29, .func (PySem.W.fnOf "want_in" "want_in" (defArgs a_want_in) (defBody a_want_in) (defScope a_want_in) .none kV29 dc29 pm29 an29 cd29 ct29), sl29⟩)
    (c29 : PySem.W.codeIn K cd29 "want_in" = true) (k29 : PySem.W.keepIn K (.ref f29) = true)
    (a30 : PySem.W.nsIn K mainGlobals "read_rule" = some (some (.ref f30)))
    (l30 : K.lookup f30 = some ⟨oc30, od30, .func (PySem.W.fnOf "read_rule" "read_rule" (defArgs a_read_rule) (defBody a_read_rule) (defScope a_read_rule) .none kV30 dc30 pm30 an30 cd30 ct30), sl30⟩)
    (c30 : PySem.W.codeIn K cd30 "read_rule" = true) (k30 : PySem.W.keepIn K (.ref f30) = true)
    (a31 : PySem.W.nsIn K mainGlobals "read_standing" = some (some (.ref f31)))
    (l31 : K.lookup f31 = some ⟨oc31, od31, .func (PySem.W.fnOf "read_standing" "read_standing" (defArgs a_read_standing) (defBody a_read_standing) (defScope a_read_standing) .none kV31 dc31 pm31 an31 cd31 ct31), sl31⟩)
    (c31 : PySem.W.codeIn K cd31 "read_standing" = true) (k31 : PySem.W.keepIn K (.ref f31) = true)
    (a32 : PySem.W.nsIn K mainGlobals "read_want" = some (some (.ref f32)))
    (l32 : K.lookup f32 = some ⟨oc32, od32, .func (PySem.W.fnOf "read_want" "read_want" (defArgs a_read_want) (defBody a_read_want) (defScope a_read_want) .none kV32 dc32 pm32 an32 cd32 ct32), sl32⟩)
    (c32 : PySem.W.codeIn K cd32 "read_want" = true) (k32 : PySem.W.keepIn K (.ref f32) = true)
    (a33 : PySem.W.nsIn K mainGlobals "number_in" = some (some (.ref f33)))
    (l33 : K.lookup f33 = some ⟨oc33, od33, .func (PySem.W.fnOf "number_in" "number_in" (defArgs a_number_in) (defBody a_number_in) (defScope a_number_in) .none kV33 dc33 pm33 an33 cd33 ct33), sl33⟩)
    (c33 : PySem.W.codeIn K cd33 "number_in" = true) (k33 : PySem.W.keepIn K (.ref f33) = true)
    (a34 : PySem.W.nsIn K mainGlobals "wish_in" = some (some (.ref f34)))
    (l34 : K.lookup f34 = some ⟨oc34, od34, .func (PySem.W.fnOf "wish_in" "wish_in" (defArgs a_wish_in) (defBody a_wish_in) (defScope a_wish_in) .none kV34 dc34 pm34 an34 cd34 ct34), sl34⟩)
    (c34 : PySem.W.codeIn K cd34 "wish_in" = true) (k34 : PySem.W.keepIn K (.ref f34) = true)
    (a35 : PySem.W.nsIn K mainGlobals "read_letter" = some (some (.ref f35)))
    (l35 : K.lookup f35 = some ⟨oc35, od35, .func (PySem.W.fnOf "read_letter" "read_letter" (defArgs a_read_letter) (defBody a_read_letter) (defScope a_read_letter) .none kV35 dc35 pm35 an35 cd35 ct35), sl35⟩)
    (c35 : PySem.W.codeIn K cd35 "read_letter" = true) (k35 : PySem.W.keepIn K (.ref f35) = true)
    (a36 : PySem.W.nsIn K mainGlobals "_law_pot" = some (some (.ref f36)))
    (l36 : K.lookup f36 = some ⟨oc36, od36, .func (PySem.W.fnOf "_law_pot" "_law_pot" (defArgs sPot) (defBody sPot) (defScope sPot) .none kV36 dc36 pm36 an36 cd36 ct36), sl36⟩)
    (c36 : PySem.W.codeIn K cd36 "_law_pot" = true) (k36 : PySem.W.keepIn K (.ref f36) = true)
    (a37 : PySem.W.nsIn K mainGlobals "_law_take" = some (some (.ref f37)))
    (l37 : K.lookup f37 = some ⟨oc37, od37, .func (PySem.W.fnOf "_law_take" "_law_take" (defArgs sTake) (defBody sTake) (defScope sTake) .none kV37 dc37 pm37 an37 cd37 ct37), sl37⟩)
    (c37 : PySem.W.codeIn K cd37 "_law_take" = true) (k37 : PySem.W.keepIn K (.ref f37) = true)
    (a38 : PySem.W.nsIn K mainGlobals "_law_of" = some (some (.ref f38)))
    (l38 : K.lookup f38 = some ⟨oc38, od38, .func (PySem.W.fnOf "_law_of" "_law_of" (defArgs sOf) (defBody sOf) (defScope sOf) .none kV38 dc38 pm38 an38 cd38 ct38), sl38⟩)
    (c38 : PySem.W.codeIn K cd38 "_law_of" = true) (k38 : PySem.W.keepIn K (.ref f38) = true)
    (a39 : PySem.W.nsIn K mainGlobals "_law_standing" = some (some (.ref f39)))
    (l39 : K.lookup f39 = some ⟨oc39, od39, .func (PySem.W.fnOf "_law_standing" "_law_standing" (defArgs sStand) (defBody sStand) (defScope sStand) .none kV39 dc39 pm39 an39 cd39 ct39), sl39⟩)
    (c39 : PySem.W.codeIn K cd39 "_law_standing" = true) (k39 : PySem.W.keepIn K (.ref f39) = true)
    (a40 : PySem.W.nsIn K mainGlobals "_law_wide_tops" = some (some (.ref f40)))
    (l40 : K.lookup f40 = some ⟨oc40, od40, .func (PySem.W.fnOf "_law_wide_tops" "_law_wide_tops" (defArgs sWide) (defBody sWide) (defScope sWide) .none kV40 dc40 pm40 an40 cd40 ct40), sl40⟩)
    (c40 : PySem.W.codeIn K cd40 "_law_wide_tops" = true) (k40 : PySem.W.keepIn K (.ref f40) = true)
    (a41 : PySem.W.nsIn K mainGlobals "_law_any_side" = some (some (.ref f41)))
    (l41 : K.lookup f41 = some ⟨oc41, od41, .func (PySem.W.fnOf "_law_any_side" "_law_any_side" (defArgs a__law_any_side) (defBody a__law_any_side) (defScope a__law_any_side) .none kV41 dc41 pm41 an41 cd41 ct41), sl41⟩)
    (c41 : PySem.W.codeIn K cd41 "_law_any_side" = true) (k41 : PySem.W.keepIn K (.ref f41) = true)
    (a42 : PySem.W.nsIn K mainGlobals "_law_wish" = some (some (.ref f42)))
    (l42 : K.lookup f42 = some ⟨oc42, od42, .func (PySem.W.fnOf "_law_wish" "_law_wish" (defArgs a__law_wish) (defBody a__law_wish) (defScope a__law_wish) .none kV42 dc42 pm42 an42 cd42 ct42), sl42⟩)
    (c42 : PySem.W.codeIn K cd42 "_law_wish" = true) (k42 : PySem.W.keepIn K (.ref f42) = true)
    (a43 : PySem.W.nsIn K mainGlobals "_law_letter" = some (some (.ref f43)))
    (l43 : K.lookup f43 = some ⟨oc43, od43, .func (PySem.W.fnOf "_law_letter" "_law_letter" (defArgs a__law_letter) (defBody a__law_letter) (defScope a__law_letter) .none kV43 dc43 pm43 an43 cd43 ct43), sl43⟩)
    (c43 : PySem.W.codeIn K cd43 "_law_letter" = true) (k43 : PySem.W.keepIn K (.ref f43) = true)
    (a44 : PySem.W.nsIn K mainGlobals "_law_joined" = some (some (.ref f44)))
    (l44 : K.lookup f44 = some ⟨oc44, od44, .func (PySem.W.fnOf "_law_joined" "_law_joined" (defArgs a__law_joined) (defBody a__law_joined) (defScope a__law_joined) .none kV44 dc44 pm44 an44 cd44 ct44), sl44⟩)
    (c44 : PySem.W.codeIn K cd44 "_law_joined" = true) (k44 : PySem.W.keepIn K (.ref f44) = true)
    (a45 : PySem.W.nsIn K mainGlobals "_law_side_text" = some (some (.ref f45)))
    (l45 : K.lookup f45 = some ⟨oc45, od45, .func (PySem.W.fnOf "_law_side_text" "_law_side_text" (defArgs a__law_side_text) (defBody a__law_side_text) (defScope a__law_side_text) .none kV45 dc45 pm45 an45 cd45 ct45), sl45⟩)
    (c45 : PySem.W.codeIn K cd45 "_law_side_text" = true) (k45 : PySem.W.keepIn K (.ref f45) = true)
    (a46 : PySem.W.nsIn K mainGlobals "_law_wish_text" = some (some (.ref f46)))
    (l46 : K.lookup f46 = some ⟨oc46, od46, .func (PySem.W.fnOf "_law_wish_text" "_law_wish_text" (defArgs a__law_wish_text) (defBody a__law_wish_text) (defScope a__law_wish_text) .none kV46 dc46 pm46 an46 cd46 ct46), sl46⟩)
    (c46 : PySem.W.codeIn K cd46 "_law_wish_text" = true) (k46 : PySem.W.keepIn K (.ref f46) = true)
    (a47 : PySem.W.nsIn K mainGlobals "_law_letter_text" = some (some (.ref f47)))
    (l47 : K.lookup f47 = some ⟨oc47, od47, .func (PySem.W.fnOf "_law_letter_text" "_law_letter_text" (defArgs a__law_letter_text) (defBody a__law_letter_text) (defScope a__law_letter_text) .none kV47 dc47 pm47 an47 cd47 ct47), sl47⟩)
    (c47 : PySem.W.codeIn K cd47 "_law_letter_text" = true) (k47 : PySem.W.keepIn K (.ref f47) = true)
    (a48 : PySem.W.nsIn K mainGlobals "_law_want_text" = some (some (.ref f48)))
    (l48 : K.lookup f48 = some ⟨oc48, od48, .func (PySem.W.fnOf "_law_want_text" "_law_want_text" (defArgs a__law_want_text) (defBody a__law_want_text) (defScope a__law_want_text) .none kV48 dc48 pm48 an48 cd48 ct48), sl48⟩)
    (c48 : PySem.W.codeIn K cd48 "_law_want_text" = true) (k48 : PySem.W.keepIn K (.ref f48) = true)
    (a49 : PySem.W.nsIn K mainGlobals "_law_way_text" = some (some (.ref f49)))
    (l49 : K.lookup f49 = some ⟨oc49, od49, .func (PySem.W.fnOf "_law_way_text" "_law_way_text" (defArgs a__law_way_text) (defBody a__law_way_text) (defScope a__law_way_text) .none kV49 dc49 pm49 an49 cd49 ct49), sl49⟩)
    (c49 : PySem.W.codeIn K cd49 "_law_way_text" = true) (k49 : PySem.W.keepIn K (.ref f49) = true)
    (a50 : PySem.W.nsIn K mainGlobals "_law_alike" = some (some (.ref f50)))
    (l50 : K.lookup f50 = some ⟨oc50, od50, .func (PySem.W.fnOf "_law_alike" "_law_alike" (defArgs a__law_alike) (defBody a__law_alike) (defScope a__law_alike) .none kV50 dc50 pm50 an50 cd50 ct50), sl50⟩)
    (c50 : PySem.W.codeIn K cd50 "_law_alike" = true) (k50 : PySem.W.keepIn K (.ref f50) = true)
    (a51 : PySem.W.nsIn K mainGlobals "_law_rules_right" = some (some (.ref f51)))
    (l51 : K.lookup f51 = some ⟨oc51, od51, .func (PySem.W.fnOf "_law_rules_right" "_law_rules_right" (defArgs a__law_rules_right) (defBody a__law_rules_right) (defScope a__law_rules_right) .none kV51 dc51 pm51 an51 cd51 ct51), sl51⟩)
    (c51 : PySem.W.codeIn K cd51 "_law_rules_right" = true) (k51 : PySem.W.keepIn K (.ref f51) = true)
    (a52 : PySem.W.nsIn K mainGlobals "_law_standings_right" = some (some (.ref f52)))
    (l52 : K.lookup f52 = some ⟨oc52, od52, .func (PySem.W.fnOf "_law_standings_right" "_law_standings_right" (defArgs a__law_standings_right) (defBody a__law_standings_right) (defScope a__law_standings_right) .none kV52 dc52 pm52 an52 cd52 ct52), sl52⟩)
    (c52 : PySem.W.codeIn K cd52 "_law_standings_right" = true) (k52 : PySem.W.keepIn K (.ref f52) = true)
    (a53 : PySem.W.nsIn K mainGlobals "_law_wants_right" = some (some (.ref f53)))
    (l53 : K.lookup f53 = some ⟨oc53, od53, .func (PySem.W.fnOf "_law_wants_right" "_law_wants_right" (defArgs a__law_wants_right) (defBody a__law_wants_right) (defScope a__law_wants_right) .none kV53 dc53 pm53 an53 cd53 ct53), sl53⟩)
    (c53 : PySem.W.codeIn K cd53 "_law_wants_right" = true) (k53 : PySem.W.keepIn K (.ref f53) = true)
    (a54 : PySem.W.nsIn K mainGlobals "_law_ways_right" = some (some (.ref f54)))
    (l54 : K.lookup f54 = some ⟨oc54, od54, .func (PySem.W.fnOf "_law_ways_right" "_law_ways_right" (defArgs a__law_ways_right) (defBody a__law_ways_right) (defScope a__law_ways_right) .none kV54 dc54 pm54 an54 cd54 ct54), sl54⟩)
    (c54 : PySem.W.codeIn K cd54 "_law_ways_right" = true) (k54 : PySem.W.keepIn K (.ref f54) = true)
    (a55 : PySem.W.nsIn K mainGlobals "_law_letters_right" = some (some (.ref f55)))
    (l55 : K.lookup f55 = some ⟨oc55, od55, .func (PySem.W.fnOf "_law_letters_right" "_law_letters_right" (defArgs a__law_letters_right) (defBody a__law_letters_right) (defScope a__law_letters_right) .none kV55 dc55 pm55 an55 cd55 ct55), sl55⟩)
    (c55 : PySem.W.codeIn K cd55 "_law_letters_right" = true) (k55 : PySem.W.keepIn K (.ref f55) = true)
    (a56 : PySem.W.nsIn K mainGlobals "law" = some (some (.ref f56)))
    (l56 : K.lookup f56 = some ⟨oc56, od56, .func (PySem.W.fnOf "law" "law" (defArgs a_law) (defBody a_law) (defScope a_law) .none kV56 dc56 pm56 an56 cd56 ct56), sl56⟩)
    (c56 : PySem.W.codeIn K cd56 "law" = true) (k56 : PySem.W.keepIn K (.ref f56) = true)
    (aC : PySem.W.nsIn K mainGlobals "Plan" = some (some (.ref C))) (aI : PySem.W.findIn K (.ref C) "__init__" = some (some (.ref f0))) (iI : PySem.W.isFn K (.ref f0) = true)
    (lI : K.lookup f0 = some ⟨oc0, od0, .func (PySem.W.fnOf "__init__" "Plan.__init__" (defArgs kInit) (defBody kInit) (defScope kInit) (.ref Td) kV0 dc0 pm0 an0 cd0 ct0), sl0⟩) (cI : PySem.W.codeIn K cd0 "Plan.__init__" = true) (kI : PySem.W.keepIn K (.ref f0) = true)
    (lT : K.lookup Td = some ⟨ocT, odT, .seq #[.ref e0] nT, slT⟩)
    (pg : PySem.W.plainGet K C Str.empty = true) (hd : PySem.W.hasDictIn K C = true) (po : PySem.W.plainOver K C = true) (sa : PySem.W.findIn K (.ref C) "__setattr__" = some (some (.builtin "object.__setattr__"))) (mk : PySem.W.makesIn K C = true) (kc : PySem.W.keepIn K (.ref C) = true)
    (nTo : PySem.W.findIn K (.ref C) "tops" = some none) (nRu : PySem.W.findIn K (.ref C) "rules" = some none)
    (v1 : PySem.W.nsIn K mainGlobals "MOST_THINGS" = some (some (.int 12 tk1))) (v2 : PySem.W.nsIn K mainGlobals "MOST_RULES" = some (some (.int 40 tk2))) (v3 : PySem.W.nsIn K mainGlobals "BEYOND_THIRTY_FIGURES" = some (some (.int 1000000000000000000000000000000 tk3)))
    (v4 : PySem.W.nsIn K mainGlobals "WORDS" = some (some (.ref wa))) (v5 : K.lookup wa = some ⟨.type "tuple", odW, .seq #[.str "from" tk4, .str "to" tk5] nW, slW⟩)
    {odE0 : Option Addr} {slE0 : Array (Option Value)} {nE0 : Nat} (lE0 : K.lookup e0 = some ⟨.type "tuple", odE0, .seq #[] nE0, slE0⟩)
    {tk6 : Tok} (v6 : PySem.W.nsIn K mainGlobals "MOST_SIDES" = some (some (.int 24 tk6)))
    {tk7 : Tok} (v7 : PySem.W.nsIn K mainGlobals "MOST_FIGURES" = some (some (.int 30 tk7)))
    {tk8 : Tok} (v8 : PySem.W.nsIn K mainGlobals "NOTHING" = some (some (.str "-" tk8)))
    (z1 : PySem.W.nsIn K mainGlobals "abs" = some none)
    (z2 : PySem.W.nsIn K mainGlobals "all" = some none)
    (z3 : PySem.W.nsIn K mainGlobals "bool" = some none)
    (z4 : PySem.W.nsIn K mainGlobals "int" = some none)
    (z5 : PySem.W.nsIn K mainGlobals "isinstance" = some none)
    (z6 : PySem.W.nsIn K mainGlobals "len" = some none)
    (z7 : PySem.W.nsIn K mainGlobals "max" = some none)
    (z8 : PySem.W.nsIn K mainGlobals "min" = some none)
    (z9 : PySem.W.nsIn K mainGlobals "range" = some none)
    (z10 : PySem.W.nsIn K mainGlobals "repr" = some none)
    (z11 : PySem.W.nsIn K mainGlobals "str" = some none)
    (z12 : PySem.W.nsIn K mainGlobals "tuple" = some none)
    (z13 : PySem.W.nsIn K mainGlobals "zip" = some none)
    : ∃ fd : FuncData, (∀ (s : Shared) (v : Value), BindsTo s fd ⟨[v], []⟩ [("_law_script", v)]) ∧ ∀ base : Heap, K.In base → base.Ns mainGlobals mg → FnG l.prog w K mg base 10 fa fd ["_law_script"] (spLaw K) := by
  have e := hfa.symm.trans (PySem.W.mg_of X G a56)
  cases e
  have F1 := fun_mk (st := a_show_side) l1 c1 k1
  have b1 := F1.binds (ps := ["side"]) fun _ _ _ _ _ _ us hl => match us, hl with | [_], _ => rfl
  have g1 := PySem.W.mg_of X G a1
  have F2 := fun_mk (st := a_show_rule) l2 c2 k2
  have b2 := F2.binds (ps := ["rule"]) fun _ _ _ _ _ _ us hl => match us, hl with | [_], _ => rfl
  have g2 := PySem.W.mg_of X G a2
  have F3 := fun_mk (st := a_show_standing) l3 c3 k3
  have b3 := F3.binds (ps := ["standing"]) fun _ _ _ _ _ _ us hl => match us, hl with | [_], _ => rfl
  have g3 := PySem.W.mg_of X G a3
  have F4 := fun_mk (st := a_show_want) l4 c4 k4
  have b4 := F4.binds (ps := ["want"]) fun _ _ _ _ _ _ us hl => match us, hl with | [_], _ => rfl
  have g4 := PySem.W.mg_of X G a4
  have F5 := fun_mk (st := a_show_way) l5 c5 k5
  have b5 := F5.binds (ps := ["way"]) fun _ _ _ _ _ _ us hl => match us, hl with | [_], _ => rfl
  have g5 := PySem.W.mg_of X G a5
  have F6 := fun_mk (st := a_show_wish) l6 c6 k6
  have b6 := F6.binds (ps := ["wish"]) fun _ _ _ _ _ _ us hl => match us, hl with | [_], _ => rfl
  have g6 := PySem.W.mg_of X G a6
  have F7 := fun_mk (st := a_show_letter) l7 c7 k7
  have b7 := F7.binds (ps := ["letter"]) fun _ _ _ _ _ _ us hl => match us, hl with | [_], _ => rfl
  have g7 := PySem.W.mg_of X G a7
  have F8 := fun_mk (st := a_plan_rows) l8 c8 k8
  have b8 := F8.binds (ps := ["tops", "rules"]) fun _ _ _ _ _ _ us hl => match us, hl with | [_, _], _ => rfl
  have g8 := PySem.W.mg_of X G a8
  have F9 := fun_mk (st := a_is_whole) l9 c9 k9
  have b9 := F9.binds (ps := ["thing"]) fun _ _ _ _ _ _ us hl => match us, hl with | [_], _ => rfl
  have g9 := PySem.W.mg_of X G a9
  have F10 := fun_mk (st := kPlace) l10 c10 k10
  have b10 := F10.binds (ps := ["top", "thing"]) fun _ _ _ _ _ _ us hl => match us, hl with | [_, _], _ => rfl
  have g10 := PySem.W.mg_of X G a10
  have F11 := fun_mk (st := kTops) l11 c11 k11
  have b11 := F11.binds (ps := ["thing"]) fun _ _ _ _ _ _ us hl => match us, hl with | [_], _ => rfl
  have g11 := PySem.W.mg_of X G a11
  have F12 := fun_mk (st := kSide) l12 c12 k12
  have b12 := F12.binds (ps := ["tops", "thing"]) fun _ _ _ _ _ _ us hl => match us, hl with | [_, _], _ => rfl
  have g12 := PySem.W.mg_of X G a12
  have F13 := fun_mk (st := kSides) l13 c13 k13
  have b13 := F13.binds (ps := ["tops", "thing"]) fun _ _ _ _ _ _ us hl => match us, hl with | [_, _], _ => rfl
  have g13 := PySem.W.mg_of X G a13
  have F14 := fun_mk (st := kRule) l14 c14 k14
  have b14 := F14.binds (ps := ["tops", "thing"]) fun _ _ _ _ _ _ us hl => match us, hl with | [_, _], _ => rfl
  have g14 := PySem.W.mg_of X G a14
  have F15 := fun_mk (st := a_are_rules_of) l15 c15 k15
  have b15 := F15.binds (ps := ["tops", "thing"]) fun _ _ _ _ _ _ us hl => match us, hl with | [_, _], _ => rfl
  have g15 := PySem.W.mg_of X G a15
  have F16 := fun_mk (st := a_is_count) l16 c16 k16
  have b16 := F16.binds (ps := ["thing"]) fun _ _ _ _ _ _ us hl => match us, hl with | [_], _ => rfl
  have g16 := PySem.W.mg_of X G a16
  have F17 := fun_mk (st := a_is_wish) l17 c17 k17
  have b17 := F17.binds (ps := ["thing"]) fun _ _ _ _ _ _ us hl => match us, hl with | [_], _ => rfl
  have g17 := PySem.W.mg_of X G a17
  have F18 := fun_mk (st := a_is_letter) l18 c18 k18
  have b18 := F18.binds (ps := ["thing"]) fun _ _ _ _ _ _ us hl => match us, hl with | [_], _ => rfl
  have g18 := PySem.W.mg_of X G a18
  have F19 := fun_mk (st := kIsSt) l19 c19 k19
  have b19 := F19.binds (ps := ["plan", "thing"]) fun _ _ _ _ _ _ us hl => match us, hl with | [_, _], _ => rfl
  have g19 := PySem.W.mg_of X G a19
  have F20 := fun_mk (st := a_is_want) l20 c20 k20
  have b20 := F20.binds (ps := ["plan", "thing"]) fun _ _ _ _ _ _ us hl => match us, hl with | [_, _], _ => rfl
  have g20 := PySem.W.mg_of X G a20
  have F21 := fun_mk (st := a_is_number) l21 c21 k21
  have b21 := F21.binds (ps := ["word"]) fun _ _ _ _ _ _ us hl => match us, hl with | [_], _ => rfl
  have g21 := PySem.W.mg_of X G a21
  have F22 := fun_mk (st := a_are_numbers) l22 c22 k22
  have b22 := F22.binds (ps := ["text"]) fun _ _ _ _ _ _ us hl => match us, hl with | [_], _ => rfl
  have g22 := PySem.W.mg_of X G a22
  have F23 := fun_mk (st := a_is_side_text) l23 c23 k23
  have b23 := F23.binds (ps := ["text"]) fun _ _ _ _ _ _ us hl => match us, hl with | [_], _ => rfl
  have g23 := PySem.W.mg_of X G a23
  have F24 := fun_mk (st := a_is_rule_text) l24 c24 k24
  have b24 := F24.binds (ps := ["text"]) fun _ _ _ _ _ _ us hl => match us, hl with | [_], _ => rfl
  have g24 := PySem.W.mg_of X G a24
  have F25 := fun_mk (st := a_is_want_text) l25 c25 k25
  have b25 := F25.binds (ps := ["text"]) fun _ _ _ _ _ _ us hl => match us, hl with | [_], _ => rfl
  have g25 := PySem.W.mg_of X G a25
  have F26 := fun_mk (st := a_numbers_in) l26 c26 k26
  have b26 := F26.binds (ps := ["text"]) fun _ _ _ _ _ _ us hl => match us, hl with | [_], _ => rfl
  have g26 := PySem.W.mg_of X G a26
  have F27 := fun_mk (st := a_side_in) l27 c27 k27
  have b27 := F27.binds (ps := ["text"]) fun _ _ _ _ _ _ us hl => match us, hl with | [_], _ => rfl
  have g27 := PySem.W.mg_of X G a27
  have F28 := fun_mk (st := a_rule_in) l28 c28 k28
  have b28 := F28.binds (ps := ["text"]) fun _ _ _ _ _ _ us hl => match us, hl with | [_], _ => rfl
  have g28 := PySem.W.mg_of X G a28
  have F29 := fun_mk (st := a_want_in) l29 c29 k29
  have b29 := F29.binds (ps := ["text"]) fun _ _ _ _ _ _ us hl => match us, hl with | [_], _ => rfl
  have g29 := PySem.W.mg_of X G a29
  have F30 := fun_mk (st := a_read_rule) l30 c30 k30
  have b30 := F30.binds (ps := ["plan", "text"]) fun _ _ _ _ _ _ us hl => match us, hl with | [_, _], _ => rfl
  have g30 := PySem.W.mg_of X G a30
  have F31 := fun_mk (st := a_read_standing) l31 c31 k31
  have b31 := F31.binds (ps := ["plan", "text"]) fun _ _ _ _ _ _ us hl => match us, hl with | [_, _], _ => rfl
  have g31 := PySem.W.mg_of X G a31
  have F32 := fun_mk (st := a_read_want) l32 c32 k32
  have b32 := F32.binds (ps := ["plan", "text"]) fun _ _ _ _ _ _ us hl => match us, hl with | [_, _], _ => rfl
  have g32 := PySem.W.mg_of X G a32
  have F33 := fun_mk (st := a_number_in) l33 c33 k33
  have b33 := F33.binds (ps := ["word"]) fun _ _ _ _ _ _ us hl => match us, hl with | [_], _ => rfl
  have g33 := PySem.W.mg_of X G a33
  have F34 := fun_mk (st := a_wish_in) l34 c34 k34
  have b34 := F34.binds (ps := ["word"]) fun _ _ _ _ _ _ us hl => match us, hl with | [_], _ => rfl
  have g34 := PySem.W.mg_of X G a34
  have F35 := fun_mk (st := a_read_letter) l35 c35 k35
  have b35 := F35.binds (ps := ["text"]) fun _ _ _ _ _ _ us hl => match us, hl with | [_], _ => rfl
  have g35 := PySem.W.mg_of X G a35
  have F36 := fun_mk (st := sPot) l36 c36 k36
  have b36 := F36.binds (ps := ["_law_script", "_law_k"]) fun _ _ _ _ _ _ us hl => match us, hl with | [_, _], _ => rfl
  have g36 := PySem.W.mg_of X G a36
  have F37 := fun_mk (st := sTake) l37 c37 k37
  have b37 := F37.binds (ps := ["_law_pot_here", "_law_many"]) fun _ _ _ _ _ _ us hl => match us, hl with | [_, _], _ => rfl
  have g37 := PySem.W.mg_of X G a37
  have F38 := fun_mk (st := sOf) l38 c38 k38
  have b38 := F38.binds (ps := ["_law_pot_here", "_law_some"]) fun _ _ _ _ _ _ us hl => match us, hl with | [_, _], _ => rfl
  have g38 := PySem.W.mg_of X G a38
  have F39 := fun_mk (st := sStand) l39 c39 k39
  have b39 := F39.binds (ps := ["_law_pot_here", "_law_tops"]) fun _ _ _ _ _ _ us hl => match us, hl with | [_, _], _ => rfl
  have g39 := PySem.W.mg_of X G a39
  have F40 := fun_mk (st := sWide) l40 c40 k40
  have b40 := F40.binds (ps := ["_law_pot_here"]) fun _ _ _ _ _ _ us hl => match us, hl with | [_], _ => rfl
  have g40 := PySem.W.mg_of X G a40
  have F41 := fun_mk (st := a__law_any_side) l41 c41 k41
  have b41 := F41.binds (ps := ["_law_pot_here", "_law_tops"]) fun _ _ _ _ _ _ us hl => match us, hl with | [_, _], _ => rfl
  have g41 := PySem.W.mg_of X G a41
  have F42 := fun_mk (st := a__law_wish) l42 c42 k42
  have b42 := F42.binds (ps := ["_law_pot_here", "_law_some"]) fun _ _ _ _ _ _ us hl => match us, hl with | [_, _], _ => rfl
  have g42 := PySem.W.mg_of X G a42
  have F43 := fun_mk (st := a__law_letter) l43 c43 k43
  have b43 := F43.binds (ps := ["_law_pot_here"]) fun _ _ _ _ _ _ us hl => match us, hl with | [_], _ => rfl
  have g43 := PySem.W.mg_of X G a43
  have F44 := fun_mk (st := a__law_joined) l44 c44 k44
  have b44 := F44.binds (ps := ["_law_numbers", "_law_between"]) fun _ _ _ _ _ _ us hl => match us, hl with | [_, _], _ => rfl
  have g44 := PySem.W.mg_of X G a44
  have F45 := fun_mk (st := a__law_side_text) l45 c45 k45
  have b45 := F45.binds (ps := ["_law_side"]) fun _ _ _ _ _ _ us hl => match us, hl with | [_], _ => rfl
  have g45 := PySem.W.mg_of X G a45
  have F46 := fun_mk (st := a__law_wish_text) l46 c46 k46
  have b46 := F46.binds (ps := ["_law_wish_here"]) fun _ _ _ _ _ _ us hl => match us, hl with | [_], _ => rfl
  have g46 := PySem.W.mg_of X G a46
  have F47 := fun_mk (st := a__law_letter_text) l47 c47 k47
  have b47 := F47.binds (ps := ["_law_letter_here"]) fun _ _ _ _ _ _ us hl => match us, hl with | [_], _ => rfl
  have g47 := PySem.W.mg_of X G a47
  have F48 := fun_mk (st := a__law_want_text) l48 c48 k48
  have b48 := F48.binds (ps := ["_law_want"]) fun _ _ _ _ _ _ us hl => match us, hl with | [_], _ => rfl
  have g48 := PySem.W.mg_of X G a48
  have F49 := fun_mk (st := a__law_way_text) l49 c49 k49
  have b49 := F49.binds (ps := ["_law_rows"]) fun _ _ _ _ _ _ us hl => match us, hl with | [_], _ => rfl
  have g49 := PySem.W.mg_of X G a49
  have F50 := fun_mk (st := a__law_alike) l50 c50 k50
  have b50 := F50.binds (ps := ["_law_found", "_law_due"]) fun _ _ _ _ _ _ us hl => match us, hl with | [_, _], _ => rfl
  have g50 := PySem.W.mg_of X G a50
  have F51 := fun_mk (st := a__law_rules_right) l51 c51 k51
  have b51 := F51.binds (ps := ["_law_pot_here", "_law_plan"]) fun _ _ _ _ _ _ us hl => match us, hl with | [_, _], _ => rfl
  have g51 := PySem.W.mg_of X G a51
  have F52 := fun_mk (st := a__law_standings_right) l52 c52 k52
  have b52 := F52.binds (ps := ["_law_pot_here", "_law_plan"]) fun _ _ _ _ _ _ us hl => match us, hl with | [_, _], _ => rfl
  have g52 := PySem.W.mg_of X G a52
  have F53 := fun_mk (st := a__law_wants_right) l53 c53 k53
  have b53 := F53.binds (ps := ["_law_pot_here", "_law_plan"]) fun _ _ _ _ _ _ us hl => match us, hl with | [_, _], _ => rfl
  have g53 := PySem.W.mg_of X G a53
  have F54 := fun_mk (st := a__law_ways_right) l54 c54 k54
  have b54 := F54.binds (ps := ["_law_pot_here", "_law_tops"]) fun _ _ _ _ _ _ us hl => match us, hl with | [_, _], _ => rfl
  have g54 := PySem.W.mg_of X G a54
  have F55 := fun_mk (st := a__law_letters_right) l55 c55 k55
  have b55 := F55.binds (ps := ["_law_pot_here"]) fun _ _ _ _ _ _ us hl => match us, hl with | [_], _ => rfl
  have g55 := PySem.W.mg_of X G a55
  have F56 := fun_mk (st := a_law) l56 c56 k56
  have m1 := PySem.W.mg_none_of X G z1
  have m2 := PySem.W.mg_none_of X G z2
  have m3 := PySem.W.mg_none_of X G z3
  have m4 := PySem.W.mg_none_of X G z4
  have m5 := PySem.W.mg_none_of X G z5
  have m6 := PySem.W.mg_none_of X G z6
  have m7 := PySem.W.mg_none_of X G z7
  have m8 := PySem.W.mg_none_of X G z8
  have m9 := PySem.W.mg_none_of X G z9
  have m10 := PySem.W.mg_none_of X G z10
  have m11 := PySem.W.mg_none_of X G z11
  have m12 := PySem.W.mg_none_of X G z12
  have m13 := PySem.W.mg_none_of X G z13
  have TX : PlanTxt K mg C := ⟨⟨pg, hd, po, sa⟩, nTo, nRu, PySem.W.mg_of X G aC⟩
  have MK : Mk K C f0 := ⟨mk, aI, iI, kc⟩
  have FD : FunD K "__init__" "Plan.__init__" (defArgs kInit) (defBody kInit) (defScope kInit) [V.ref e0] [] f0 (PySem.W.fnOf "__init__" "Plan.__init__" (defArgs kInit) (defBody kInit) (defScope kInit) (.ref Td) kV0 dc0 pm0 an0 cd0 ct0) :=
    ⟨⟨oc0, od0, .ref Td, kV0, dc0, pm0, an0, cd0, ct0, sl0, rfl, lI, cI, .inr ⟨by simp, Td, _, [.ref e0], nT, rfl, lT, rfl, .cons rfl .nil⟩, .inl rfl⟩, kI⟩
  obtain ⟨ds, rds, bI⟩ := FD.binds1 (ps := ["self", "tops", "rules"]) 3 1 (by simp) rfl fun T kV doc pm an cdv ct us its h1 h2 => match us, its, h1, h2 with | [_, _, _], [_], _, _ => ⟨_, rfl, rfl⟩
  cases rds
  have hW : ∀ H, SqT K H wa [.str "from", .str "to"] := fun H => .inr ⟨_, _, _, v5, rfl, rfl, (show 2 ≤ sizeLine by decide), .cons ⟨_, rfl⟩ (.cons ⟨_, rfl⟩ .nil)⟩
  have gv1 := PySem.W.mg_of X G v1
  have gv2 := PySem.W.mg_of X G v2
  have gv3 := PySem.W.mg_of X G v3
  have gv4 := PySem.W.mg_of X G v4
  have hE0 : ∀ H, SqT K H e0 [] := fun H => .inr ⟨_, _, _, lE0, rfl, rfl, Nat.zero_le _, .nil⟩
  have tE0 : ∀ H, TyX K H (.ref e0) (.type "tuple") := fun H => .kTuple lE0 rfl
  obtain ⟨ds0, rds0, bI0⟩ := FD.binds1 (ps := ["self", "tops", "rules"]) 2 0 (by simp) rfl fun T kV doc pm an cdv ct us its h1 h2 => match us, its, h1, h2 with | [_, _], [_], _, _ => ⟨_, rfl, rfl⟩
  have gv6 := PySem.W.mg_of X G v6
  have gv7 := PySem.W.mg_of X G v7
  have gv8 := PySem.W.mg_of X G v8
  refine ⟨PySem.W.fnOf "law" "law" (defArgs a_law) (defBody a_law) (defScope a_law) .none kV56 dc56 pm56 an56 cd56 ct56, fun s v => .of_eq rfl, fun base _ _ => ?_⟩
  have K_show_side := Kn.mk (x := "show_side") (base := base) (w := w) (P := l.prog) (ok_show_side (k := 0) F1 ) g1 F1.kp b1
  have K_show_rule := Kn.mk (x := "show_rule") (base := base) (w := w) (P := l.prog) (ok_show_rule (k := 0) F2 K_show_side) g2 F2.kp b2
  have K_show_standing := Kn.mk (x := "show_standing") (base := base) (w := w) (P := l.prog) (ok_show_standing (k := 0) F3 m11) g3 F3.kp b3
  have K_show_want := Kn.mk (x := "show_want") (base := base) (w := w) (P := l.prog) (ok_show_want (k := 0) F4 K_show_side gv8) g4 F4.kp b4
  have K_show_way := Kn.mk (x := "show_way") (base := base) (w := w) (P := l.prog) (ok_show_way (k := 0) F5 gv8) g5 F5.kp b5
  have K_show_wish := Kn.mk (x := "show_wish") (base := base) (w := w) (P := l.prog) (ok_show_wish (k := 0) F6 gv8 m11) g6 F6.kp b6
  have K_show_letter := Kn.mk (x := "show_letter") (base := base) (w := w) (P := l.prog) (ok_show_letter (k := 0) F7 K_show_wish m11) g7 F7.kp b7
  have K_plan_rows := Kn.mk (x := "plan_rows") (base := base) (w := w) (P := l.prog) (ok_plan_rows (k := 0) F8 K_show_standing K_show_rule) g8 F8.kp b8
  have K_is_whole := Kn.mk (x := "is_whole") (base := base) (w := w) (P := l.prog) (ok_is_whole (k := 0) F9 m3 m4 m5) g9 F9.kp b9
  have Kwh := Kn.mk (x := "is_whole") (base := base) (w := w) (P := l.prog) (ok_whole (k := 0) F9 m5 m4 m3) g9 F9.kp b9
  have Kpl := Kn.mk (x := "is_place") (base := base) (w := w) (P := l.prog) (ok_place (k := 0) F10 Kwh) g10 F10.kp b10
  have K_is_place := Kpl
  have Kto := Kn.mk (x := "are_tops") (base := base) (w := w) (P := l.prog) (ok_tops (k := 0) F11 Kpl m5 m12 m6 m2 gv1 gv3) g11 F11.kp b11
  have K_are_tops := Kto
  have Ksi := Kn.mk (x := "is_side_of") (base := base) (w := w) (P := l.prog) (ok_side (k := 0) F12 Kpl m5 m12 m6 m11 gv4 hW) g12 F12.kp b12
  have K_is_side_of := Ksi
  have Kss := Kn.mk (x := "are_sides_of") (base := base) (w := w) (P := l.prog) (ok_sides (k := 0) F13 Ksi m5 m12 m2) g13 F13.kp b13
  have K_are_sides_of := Kss
  have Kru := Kn.mk (x := "is_rule_of") (base := base) (w := w) (P := l.prog) (ok_rule (k := 0) F14 Kss m6) g14 F14.kp b14
  have K_is_rule_of := Kru
  have K_are_rules_of := Kn.mk (x := "are_rules_of") (base := base) (w := w) (P := l.prog) (ok_are_rules_of (k := 0) F15 K_is_rule_of gv2 m2 m5 m6 m12) g15 F15.kp b15
  have K_is_count := Kn.mk (x := "is_count") (base := base) (w := w) (P := l.prog) (ok_is_count (k := 0) F16 K_is_whole) g16 F16.kp b16
  have K_is_wish := Kn.mk (x := "is_wish") (base := base) (w := w) (P := l.prog) (ok_is_wish (k := 0) F17 K_is_whole K_is_count gv1 m2 m5 m6 m12) g17 F17.kp b17
  have K_is_letter := Kn.mk (x := "is_letter") (base := base) (w := w) (P := l.prog) (ok_is_letter (k := 0) F18 K_is_count K_is_wish m5 m6 m11 m12) g18 F18.kp b18
  have K_is_standing := Kn.mk (x := "is_standing") (base := base) (w := w) (P := l.prog) (ok_isSt (k := 0) F19 TX Kpl m5 m12 m6 m2 m13) g19 F19.kp b19
  have K_is_want := Kn.mk (x := "is_want") (base := base) (w := w) (P := l.prog) (ok_is_want (k := 0) F20 K_are_sides_of TX gv6 m6) g20 F20.kp b20
  have K_is_number := Kn.mk (x := "is_number") (base := base) (w := w) (P := l.prog) (ok_is_number (k := 0) F21 gv7 m6) g21 F21.kp b21
  have K_are_numbers := Kn.mk (x := "are_numbers") (base := base) (w := w) (P := l.prog) (ok_are_numbers (k := 0) F22 K_is_number m2) g22 F22.kp b22
  have K_is_side_text := Kn.mk (x := "is_side_text") (base := base) (w := w) (P := l.prog) (ok_is_side_text (k := 0) F23 K_is_number gv4 hW m6) g23 F23.kp b23
  have K_is_rule_text := Kn.mk (x := "is_rule_text") (base := base) (w := w) (P := l.prog) (ok_is_rule_text (k := 0) F24 K_is_side_text m2 m6) g24 F24.kp b24
  have K_is_want_text := Kn.mk (x := "is_want_text") (base := base) (w := w) (P := l.prog) (ok_is_want_text (k := 0) F25 K_is_side_text gv8 m2) g25 F25.kp b25
  have K_numbers_in := Kn.mk (x := "numbers_in") (base := base) (w := w) (P := l.prog) (ok_numbers_in (k := 0) F26 m4 m12) g26 F26.kp b26
  have K_side_in := Kn.mk (x := "side_in") (base := base) (w := w) (P := l.prog) (ok_side_in (k := 0) F27 m4) g27 F27.kp b27
  have K_rule_in := Kn.mk (x := "rule_in") (base := base) (w := w) (P := l.prog) (ok_rule_in (k := 0) F28 K_side_in m12) g28 F28.kp b28
  have K_want_in := Kn.mk (x := "want_in") (base := base) (w := w) (P := l.prog) (ok_want_in (k := 0) F29 K_side_in gv8 m12) g29 F29.kp b29
  have K_read_rule := Kn.mk (x := "read_rule") (base := base) (w := w) (P := l.prog) (ok_read_rule (k := 0) F30 K_is_rule_text K_rule_in K_is_rule_of TX m5 m11) g30 F30.kp b30
  have K_read_standing := Kn.mk (x := "read_standing") (base := base) (w := w) (P := l.prog) (ok_read_standing (k := 0) F31 K_are_numbers K_numbers_in K_is_standing m5 m11) g31 F31.kp b31
  have K_read_want := Kn.mk (x := "read_want") (base := base) (w := w) (P := l.prog) (ok_read_want (k := 0) F32 K_is_want_text K_want_in K_is_want m5 m11) g32 F32.kp b32
  have K_number_in := Kn.mk (x := "number_in") (base := base) (w := w) (P := l.prog) (ok_number_in (k := 0) F33 K_is_number m4) g33 F33.kp b33
  have K_wish_in := Kn.mk (x := "wish_in") (base := base) (w := w) (P := l.prog) (ok_wish_in (k := 0) F34 K_number_in gv8 m12) g34 F34.kp b34
  have K_read_letter := Kn.mk (x := "read_letter") (base := base) (w := w) (P := l.prog) (ok_read_letter (k := 0) F35 K_number_in K_wish_in K_is_letter m5 m11) g35 F35.kp b35
  have Ktake := Kn.mk (x := "_law_take") (base := base) (w := w) (P := l.prog) (ok_take (k := 0) F37) g37 F37.kp b37
  have K__law_take := Ktake
  have Kof := Kn.mk (x := "_law_of") (base := base) (w := w) (P := l.prog) (ok_of (k := 0) F38 Ktake m6) g38 F38.kp b38
  have K__law_of := Kof
  have K__law_any_side := Kn.mk (x := "_law_any_side") (base := base) (w := w) (P := l.prog) (ok__law_any_side (k := 0) F41 K__law_take K__law_of m6) g41 F41.kp b41
  have K__law_wish := Kn.mk (x := "_law_wish") (base := base) (w := w) (P := l.prog) (ok__law_wish (k := 0) F42 K__law_take K__law_of m9 m12) g42 F42.kp b42
  have K__law_letter := Kn.mk (x := "_law_letter") (base := base) (w := w) (P := l.prog) (ok__law_letter (k := 0) F43 K__law_take K__law_of K__law_wish) g43 F43.kp b43
  have K__law_joined := Kn.mk (x := "_law_joined") (base := base) (w := w) (P := l.prog) (ok__law_joined (k := 0) F44 m11) g44 F44.kp b44
  have K__law_side_text := Kn.mk (x := "_law_side_text") (base := base) (w := w) (P := l.prog) (ok__law_side_text (k := 0) F45 m11) g45 F45.kp b45
  have K__law_wish_text := Kn.mk (x := "_law_wish_text") (base := base) (w := w) (P := l.prog) (ok__law_wish_text (k := 0) F46 K__law_joined m11) g46 F46.kp b46
  have K__law_letter_text := Kn.mk (x := "_law_letter_text") (base := base) (w := w) (P := l.prog) (ok__law_letter_text (k := 0) F47 K__law_wish_text m11) g47 F47.kp b47
  have K__law_want_text := Kn.mk (x := "_law_want_text") (base := base) (w := w) (P := l.prog) (ok__law_want_text (k := 0) F48 K__law_side_text) g48 F48.kp b48
  have K__law_way_text := Kn.mk (x := "_law_way_text") (base := base) (w := w) (P := l.prog) (ok__law_way_text (k := 0) F49 m11) g49 F49.kp b49
  have K__law_alike := ok__law_alike (P := l.prog) (w := w) (base := base) F50 m10
  have K__law_rules_right := ok__law_rules_right F51 K__law_any_side K__law_side_text K_show_side K_show_rule K_read_rule K__law_alike g50 F50.kp b50 TX m9
  have Kst := Kn.mk (x := "_law_standing") (base := base) (w := w) (P := l.prog) (ok_stand (k := 0) F39 Ktake m12) g39 F39.kp b39
  have K__law_standing := Kst
  have K__law_standings_right := ok__law_standings_right F52 K__law_standing K__law_joined K_show_standing K_read_standing K__law_alike g50 F50.kp b50 TX m9
  have K__law_wants_right := ok__law_wants_right F53 K__law_take K__law_any_side K__law_want_text K_show_want K_read_want K__law_alike g50 F50.kp b50 TX m9 m12
  have K__law_ways_right := Kn.mk (x := "_law_ways_right") (base := base) (w := w) (P := l.prog) (ok__law_ways_right (k := 0) F54 K__law_take K__law_way_text K_show_way m6 m9 m12) g54 F54.kp b54
  have K__law_letters_right := ok__law_letters_right F55 K__law_letter K__law_letter_text K_show_letter K_read_letter K__law_alike g50 F50.kp b50 m9
  have Kpot := Kn.mk (x := "_law_pot") (base := base) (w := w) (P := l.prog) (ok_pot (k := 0) F36 m6 m1 m4) g36 F36.kp b36
  have K__law_pot := Kpot
  have Kw := Kn.mk (x := "_law_wide_tops") (base := base) (w := w) (P := l.prog) (ok_wide (k := 0) F40 Ktake Kof m9 m12) g40 F40.kp b40
  have K__law_wide_tops := Kw
  have GI0 := ok_init0 (P := l.prog) (w := w) (base := base) (k := 0) FD TX Kto K_are_rules_of
  exact ok_law F56 K__law_pot K__law_wide_tops K__law_rules_right g51 F51.kp b51 K__law_standings_right g52 F52.kp b52 K__law_wants_right g53 F53.kp b53 K__law_ways_right K__law_letters_right g55 F55.kp b55 TX MK GI0 bI0 rds0 hE0 tE0 m6 m7 m8 m9
end K70
open PySem PySem.W PyProof.Rows
set_option maxHeartbeats 0 in
theorem PySem.Challenge.cw_notbothout_k70_written_and_read_holds : PySem.Challenge.rw_notbothout_k70_written_and_read.Holds := by
  w_on; o_law; k_head; (case hw => w_witness2)
  k_fill
  refine NB.walkG (l := PySem.Challenge.rw_notbothout_k70_written_and_read) (n := 63) (k := 10) (x := "_law_script") (sp := fun w => K70.spLaw _) rfl (by decide) rfl ⟨rfl, by decide, by decide⟩ (fun w h Y => PySem.W.kIn_of Y) ?F (fun _ _ a ns hl hS => ⟨a, ns, rfl, hS, hl, fun _ => rfl⟩)
  case F =>
    intro w mg fa h KX G hmg
    refine' K70.all_mk KX G hmg ?a1 ?l1 ?c1 ?k1 ?a2 ?l2 ?c2 ?k2 ?a3 ?l3 ?c3 ?k3 ?a4 ?l4 ?c4 ?k4 ?a5 ?l5 ?c5 ?k5 ?a6 ?l6 ?c6 ?k6 ?a7 ?l7 ?c7 ?k7 ?a8 ?l8 ?c8 ?k8 ?a9 ?l9 ?c9 ?k9 ?a10 ?l10 ?c10 ?k10 ?a11 ?l11 ?c11 ?k11 ?a12 ?l12 ?c12 ?k12 ?a13 ?l13 ?c13 ?k13 ?a14 ?l14 ?c14 ?k14 ?a15 ?l15 ?c15 ?k15 ?a16 ?l16 ?c16 ?k16 ?a17 ?l17 ?c17 ?k17 ?a18 ?l18 ?c18 ?k18 ?a19 ?l19 ?c19 ?k19 ?a20 ?l20 ?c20 ?k20 ?a21 ?l21 ?c21 ?k21 ?a22 ?l22 ?c22 ?k22 ?a23 ?l23 ?c23 ?k23 ?a24 ?l24 ?c24 ?k24 ?a25 ?l25 ?c25 ?k25 ?a26 ?l26 ?c26 ?k26 ?a27 ?l27 ?c27 ?k27 ?a28 ?l28 ?c28 ?k28 ?a29 ?l29 ?c29 ?k29 ?a30 ?l30 ?c30 ?k30 ?a31 ?l31 ?c31 ?k31 ?a32 ?l32 ?c32 ?k32 ?a33 ?l33 ?c33 ?k33 ?a34 ?l34 ?c34 ?k34 ?a35 ?l35 ?c35 ?k35 ?a36 ?l36 ?c36 ?k36 ?a37 ?l37 ?c37 ?k37 ?a38 ?l38 ?c38 ?k38 ?a39 ?l39 ?c39 ?k39 ?a40 ?l40 ?c40 ?k40 ?a41 ?l41 ?c41 ?k41 ?a42 ?l42 ?c42 ?k42 ?a43 ?l43 ?c43 ?k43 ?a44 ?l44 ?c44 ?k44 ?a45 ?l45 ?c45 ?k45 ?a46 ?l46 ?c46 ?k46 ?a47 ?l47 ?c47 ?k47 ?a48 ?l48 ?c48 ?k48 ?a49 ?l49 ?c49 ?k49 ?a50 ?l50 ?c50 ?k50 ?a51 ?l51 ?c51 ?k51 ?a52 ?l52 ?c52 ?k52 ?a53 ?l53 ?c53 ?k53 ?a54 ?l54 ?c54 ?k54 ?a55 ?l55 ?c55 ?k55 ?a56 ?l56 ?c56 ?k56 ?aC ?aI ?iI ?lI ?cI ?kI ?lT ?pg ?hd ?po ?sa ?mk ?kc ?nTo ?nRu ?v1 ?v2 ?v3 ?v4 ?v5 ?lE0 ?v6 ?v7 ?v8 ?z1 ?z2 ?z3 ?z4 ?z5 ?z6 ?z7 ?z8 ?z9 ?z10 ?z11 ?z12 ?z13
    (case a1 => k_is)
    (case l1 => k_is)
    (case c1 => k_is)
    (case k1 => k_is)
    (case a2 => k_is)
    (case l2 => k_is)
    (case c2 => k_is)
    (case k2 => k_is)
    (case a3 => k_is)
    (case l3 => k_is)
    (case c3 => k_is)
    (case k3 => k_is)
    (case a4 => k_is)
    (case l4 => k_is)
    (case c4 => k_is)
    (case k4 => k_is)
    (case a5 => k_is)
    (case l5 => k_is)
    (case c5 => k_is)
    (case k5 => k_is)
    (case a6 => k_is)
    (case l6 => k_is)
    (case c6 => k_is)
    (case k6 => k_is)
    (case a7 => k_is)
    (case l7 => k_is)
    (case c7 => k_is)
    (case k7 => k_is)
    (case a8 => k_is)
    (case l8 => k_is)
    (case c8 => k_is)
    (case k8 => k_is)
    (case a9 => k_is)
    (case l9 => k_is)
    (case c9 => k_is)
    (case k9 => k_is)
    (case a10 => k_is)
    (case l10 => k_is)
    (case c10 => k_is)
    (case k10 => k_is)
    (case a11 => k_is)
    (case l11 => k_is)
    (case c11 => k_is)
    (case k11 => k_is)
    (case a12 => k_is)
    (case l12 => k_is)
    (case c12 => k_is)
    (case k12 => k_is)
    (case a13 => k_is)
    (case l13 => k_is)
    (case c13 => k_is)
    (case k13 => k_is)
    (case a14 => k_is)
    (case l14 => k_is)
    (case c14 => k_is)
    (case k14 => k_is)
    (case a15 => k_is)
    (case l15 => k_is)
    (case c15 => k_is)
    (case k15 => k_is)
    (case a16 => k_is)
    (case l16 => k_is)
    (case c16 => k_is)
    (case k16 => k_is)
    (case a17 => k_is)
    (case l17 => k_is)
    (case c17 => k_is)
    (case k17 => k_is)
    (case a18 => k_is)
    (case l18 => k_is)
    (case c18 => k_is)
    (case k18 => k_is)
    (case a19 => k_is)
    (case l19 => k_is)
    (case c19 => k_is)
    (case k19 => k_is)
    (case a20 => k_is)
    (case l20 => k_is)
    (case c20 => k_is)
    (case k20 => k_is)
    (case a21 => k_is)
    (case l21 => k_is)
    (case c21 => k_is)
    (case k21 => k_is)
    (case a22 => k_is)
    (case l22 => k_is)
    (case c22 => k_is)
    (case k22 => k_is)
    (case a23 => k_is)
    (case l23 => k_is)
    (case c23 => k_is)
    (case k23 => k_is)
    (case a24 => k_is)
    (case l24 => k_is)
    (case c24 => k_is)
    (case k24 => k_is)
    (case a25 => k_is)
    (case l25 => k_is)
    (case c25 => k_is)
    (case k25 => k_is)
    (case a26 => k_is)
    (case l26 => k_is)
    (case c26 => k_is)
    (case k26 => k_is)
    (case a27 => k_is)
    (case l27 => k_is)
    (case c27 => k_is)
    (case k27 => k_is)
    (case a28 => k_is)
    (case l28 => k_is)
    (case c28 => k_is)
    (case k28 => k_is)
    (case a29 => k_is)
    (case l29 => k_is)
    (case c29 => k_is)
    (case k29 => k_is)
    (case a30 => k_is)
    (case l30 => k_is)
    (case c30 => k_is)
    (case k30 => k_is)
    (case a31 => k_is)
    (case l31 => k_is)
    (case c31 => k_is)
    (case k31 => k_is)
    (case a32 => k_is)
    (case l32 => k_is)
    (case c32 => k_is)
    (case k32 => k_is)
    (case a33 => k_is)
    (case l33 => k_is)
    (case c33 => k_is)
    (case k33 => k_is)
    (case a34 => k_is)
    (case l34 => k_is)
    (case c34 => k_is)
    (case k34 => k_is)
    (case a35 => k_is)
    (case l35 => k_is)
    (case c35 => k_is)
    (case k35 => k_is)
    (case a36 => k_is)
    (case l36 => k_is)
    (case c36 => k_is)
    (case k36 => k_is)
    (case a37 => k_is)
    (case l37 => k_is)
    (case c37 => k_is)
    (case k37 => k_is)
    (case a38 => k_is)
    (case l38 => k_is)
    (case c38 => k_is)
    (case k38 => k_is)
    (case a39 => k_is)
    (case l39 => k_is)
    (case c39 => k_is)
    (case k39 => k_is)
    (case a40 => k_is)
    (case l40 => k_is)
    (case c40 => k_is)
    (case k40 => k_is)
    (case a41 => k_is)
    (case l41 => k_is)
    (case c41 => k_is)
    (case k41 => k_is)
    (case a42 => k_is)
    (case l42 => k_is)
    (case c42 => k_is)
    (case k42 => k_is)
    (case a43 => k_is)
    (case l43 => k_is)
    (case c43 => k_is)
    (case k43 => k_is)
    (case a44 => k_is)
    (case l44 => k_is)
    (case c44 => k_is)
    (case k44 => k_is)
    (case a45 => k_is)
    (case l45 => k_is)
    (case c45 => k_is)
    (case k45 => k_is)
    (case a46 => k_is)
    (case l46 => k_is)
    (case c46 => k_is)
    (case k46 => k_is)
    (case a47 => k_is)
    (case l47 => k_is)
    (case c47 => k_is)
    (case k47 => k_is)
    (case a48 => k_is)
    (case l48 => k_is)
    (case c48 => k_is)
    (case k48 => k_is)
    (case a49 => k_is)
    (case l49 => k_is)
    (case c49 => k_is)
    (case k49 => k_is)
    (case a50 => k_is)
    (case l50 => k_is)
    (case c50 => k_is)
    (case k50 => k_is)
    (case a51 => k_is)
    (case l51 => k_is)
    (case c51 => k_is)
    (case k51 => k_is)
    (case a52 => k_is)
    (case l52 => k_is)
    (case c52 => k_is)
    (case k52 => k_is)
    (case a53 => k_is)
    (case l53 => k_is)
    (case c53 => k_is)
    (case k53 => k_is)
    (case a54 => k_is)
    (case l54 => k_is)
    (case c54 => k_is)
    (case k54 => k_is)
    (case a55 => k_is)
    (case l55 => k_is)
    (case c55 => k_is)
    (case k55 => k_is)
    (case a56 => k_is)
    (case l56 => k_is)
    (case c56 => k_is)
    (case k56 => k_is)
    (case aC => k_is)
    (case aI => k_is)
    (case iI => k_is)
    (case lI => k_is)
    (case cI => k_is)
    (case kI => k_is)
    (case lT => k_is)
    (case pg => k_is)
    (case hd => k_is)
    (case po => k_is)
    (case sa => k_is)
    (case mk => k_is)
    (case kc => k_is)
    (case nTo => k_is)
    (case nRu => k_is)
    (case v1 => k_is)
    (case v2 => k_is)
    (case v3 => k_is)
    (case v4 => k_is)
    (case v5 => k_is)
    (case lE0 => k_is)
    (case v6 => k_is)
    (case v7 => k_is)
    (case v8 => k_is)
    (case z1 => k_is)
    (case z2 => k_is)
    (case z3 => k_is)
    (case z4 => k_is)
    (case z5 => k_is)
    (case z6 => k_is)
    (case z7 => k_is)
    (case z8 => k_is)
    (case z9 => k_is)
    (case z10 => k_is)
    (case z11 => k_is)
    (case z12 => k_is)
    (case z13 => k_is)
