import PyProof.Rows.All
import Wide.All
import OpenK.AllK
import Wide.FinOn
import HandS.Base
import HandS.Call
import HandS.List
import HandS.Comp
import HandS.Ends
import HandS.Dict
import HandS.Iter
import HandS.Text
import HandS.Words
import HandS.WordsList
import HandS.WordsDict
import HandS.Wide
import HandS.Zip
import HandS.Flow
import HandS.Flt
import KE.GoesMore
import KE.KDictZip
import PyProof.ReprRoads
import HandS.Walk
import PyProof.TupleOfSeq
import KE.GoesEnum
import HandS.Style
import PyProof.ReprLen
import HandS.IsInst
import HandS.TupAny
import PyProof.EqAt
import PyProof.NeKinds
import HandS.Codes
import HandS.Defaults
import HandS.TupMul
import HandS.Small
import HandS.More
import HandS.DictComp
import HandS.TupSets
import HandS.Strs
import HandS.RaiseMore
import HandS.Conv
import HandS.CallLocal
import PySem.Challenge.RW_notbothout_k64_whole_known_letters
set_option Elab.async false
set_option linter.all false
set_option maxRecDepth 100000
/-! Defs whose callers are known to show nothing (guards empty): what repr wants. -/
namespace NB
open PySem PySem.Spec PyProof.Rows L2

/-- a def's promise, wherever nothing is being shown around it -/
structure FnG (P : Program) (w : World) (K : PySem.W.Frag) (mg : Str → Option Value) (base : Heap) (k : Nat) (f : Addr) (fd : FuncData) (ps : List Str) (sp : Sp) : Prop where
  len : ∀ vs H Q E, sp vs H Q E → vs.length = ps.length
  go : ∀ (A : Around) (out : List Env) (s : Shared) (H : Hp) (ar : Args) (us : List Value) (vs : List V) (Q : VK) (E : XK),
    A.guards = some [] → Room k A → Env0 P w K mg base A out s H → BindsTo s fd ar (ps.zip us) → Vals vs us → sp vs H Q E →
    codeAny (model P w) A (.call (.ref f) ar) (CR CX0 out P w H s Q E) s

section
variable {P : Program} {w : World} {K : PySem.W.Frag} {mg : Str → Option Value} {base : Heap}

theorem FnG.of {k : Nat} {f : Addr} {fd : FuncData} {ps : List Str} {sp : Sp} (F : FnOk P w K mg base CX0 k f fd ps sp) : FnG P w K mg base k f fd ps sp :=
  ⟨F.len, fun A out s H ar us vs Q E _ => F.run A out s H ar us vs Q E⟩

theorem fnG {x qual : Str} {st : Stmt} {f : Addr} {fd : FuncData} {N ps : List Str} {k : Nat} {sp : Sp} (F : Fun K x qual st f fd)
    (S : FnScope N ps (defScope st)) (len : ∀ vs H Q E, sp vs H Q E → vs.length = ps.length)
    (body : ∀ (c : Value) (A : Around) (out : List Env) (s : Shared) (H : Hp) (vs : List V) (Q : VK) (E : XK),
      A.guards = some [] → Room k (A.deeper (envOfC qual (defScope st) s.heap.objs.size f c)) → sp vs H Q E →
      ∃ t, PSs (cxOf CX0 P w K mg base N qual (defScope st) f c A out s H E).nox (defBody st) t ∧
        t { nx := fun _ H' => Q .non H', rt := Q } (start N vs) H) :
    FnG P w K mg base (k + 1) f fd ps sp := by
  obtain ⟨oc, od, kV, doc, pm, an, c, ct, osl, rfl, lk, hc⟩ := F.ex
  refine ⟨len, fun A out s H ar us vs Q E hg hr e hb r h => ?_⟩
  have stays : ∀ b o, base.get? b = some o → s.heap.get? b = some o := fun b o q => (e.bs b o q).1
  have inH : K.In s.heap := e.mod.kin.keeps stays
  have noLim : s.heap.NoLimit := e.mod.nolimit.keeps stays
  have kinds : ∀ y ∈ ps.zip us, (defScope st).names.lookup y.1 = some .local ∨
      ((defScope st).names.lookup y.1 = some .cell ∧ ((cellsFrom (s.heap.objs.size + 1) (defScope st).names []).lookup y.1).isSome = true) := by
    intro y hy
    obtain ⟨n, v⟩ := y
    cases S.par n (List.of_mem_zip hy).1 with
    | inl q => exact .inl q
    | inr q => exact .inr ⟨q, PySem.W.cellsFrom_some _ _ _ (.inl q)⟩
  refine codeAny_call_function hr.depth (inH _ _ lk) rfl S.co S.gen rfl (PySem.W.codeRec_of inH hc) (hb _ _ _ _ ?_)
  refine wpAny_newFunctionEnv_cells S.kind kinds ?_
  rintro env rfl s1 x
  refine ⟨noLim.keeps x.toInCall.keep, codeAny_func ?_⟩
  obtain ⟨t, ht, hq⟩ := body c A out s H vs Q E hg (hr.deeper _) h
  have I := inv_start (CX := CX0) (E := E) S hr.hd e (len _ _ _ _ h) r x
  refine wpAny_mono (ht.nox.run [] s1 (start N vs) H _ I hq) ?_ fun _ _ z => z
  intro fl s' z
  cases fl with
  | ret u =>
    obtain ⟨v, σ', H', J, rv, q⟩ := z
    exact ⟨v, H', J.os, J.bare, J.base, J.hok, rv, q⟩
  | next =>
    obtain ⟨σ', H', J, q⟩ := z
    exact ⟨V.non, H', J.os, J.bare, J.base, J.hok, rfl, q⟩
  | brk => exact False.elim z.choose_spec.choose_spec.2
  | cont => exact False.elim z.choose_spec.choose_spec.2
end

section
variable {X : Cx} {k : Nat} {f : Addr} {fd : FuncData} {ps : List Str} {sp : Sp} {x : Str} {p pos : Pos} {e : Expr} {es : List Expr} {t : TA}
/-- f(..) of such a def, all arguments written -/
theorem pe_callG (hG : X.A.guards = some []) (F : FnG X.prog X.w X.K X.mg X.base k f fd ps sp) (hr : Room k X.A) (hg : Gl X x) (hm : X.mg x = some (.ref f))
    (hk : PySem.W.keepIn X.K (.ref f) = true) (hb : Binds X.K fd ps []) (ha : PA X (e :: es) t) (hdb : (x == ("__debug__" : Str)) = false := by decide)
    (he : starEach (e :: es) X.env = (false, eval e X.env) :: starEach es X.env := by rfl) (hpl : (backTo pos (starEach es X.env)).any (·.1) = false := by rfl) :
    PE X (.Call (.Name x p) (e :: es) [] pos) (tCall sp [] E0 t) := by
  refine ⟨fun pins s σ H Q I h => wpAny_Call_Name_kw (ld_glob I hg hm ?_ hdb)⟩
  refine PySem.W.callWith_K (h₀ := X.base) I.ok.mod.kin hk (thn (ha.run pos pins s σ H _ I h) ?_) he hpl
  rintro us s1 ⟨vs, H1, I1, r, q⟩
  refine ⟨I1.kIn, wpAny_call ?_⟩
  have q2 : sp vs H1 Q E0 := by
    have q' : sp (vs ++ []) H1 Q E0 := q
    rwa [List.append_nil] at q'
  have ln : us.length = ps.length := r.length.symm.trans (F.len _ _ _ _ q2)
  have bnd : BindsTo s1 fd ⟨us, []⟩ (ps.zip us) := by
    have b := hb s1 us I1.kIn (by rw [List.append_nil]; exact ln)
    rwa [List.append_nil] at b
  refine codeAny_mono (F.go X.A X.stack s1 H1 ⟨us, []⟩ us vs Q E0 hG hr I1.env0 bnd r q2) ?_
  intro rs s' z
  cases rs with
  | error e => exact False.elim z
  | ok fl =>
    cases fl with
    | ret u => exact I1.after z
    | next => exact False.elim z
    | brk => exact False.elim z
    | cont => exact False.elim z
end

section
variable {X : Cx}
/-- what repr asks of data -/
structure Showable (d : PyData) : Prop where
  sh : d.showable = true
  nd : d.hasDict = false
  dp : d.depth ≤ 60
  sz : d.shown.length ≤ sizeLine
/-- repr(x), x a list or a tuple of data -/
theorem call_reprD (hG : X.A.guards = some []) (hu : X.A.units + 64 < cLine) : CallR X (.builtin "repr") (fun xs H Q => ∃ a d, xs = [.ref a] ∧ Dp X.K H (.ref a) d ∧ Showable d ∧ Q (.str d.shown) H) := by
  intro pins s σ H xs us Q I r h
  obtain ⟨a, d, rfl, hd, S, q⟩ := h
  obtain ⟨u, rfl, ru⟩ := vals1 r
  obtain ⟨as, rd⟩ := Dp.reads I d _ u hd ru
  cases ru
  have hn := S.dp
  exact repr_of_reads' rd S.sh (PyData.noDict_hsm S.nd) hG (by omega) (fun _ _ z => z) (fun h' u tk hk => ⟨.str _, H, I.kept hk, ⟨_, rfl⟩, q⟩) S.sz
end
end NB

set_option Elab.async false
set_option linter.all false
set_option maxRecDepth 100000
set_option maxHeartbeats 1000000
/-! zip of three tuples of one length, its turns given to one name or to three. -/
namespace NB
open PySem PySem.Spec PyProof.Rows L2
open PySem.Sem (wp)

/-- a zip as it stands between two turns: a is None or the tuple given out last -/
abbrev Zat (h : Heap) (z ti to : Addr) (a b : Value) : Prop :=
  h.get? z = some { cls := .type "zip", dict := none, data := .fields #[a, b, .bool false, .ref ti, .ref to], slots := #[] }
def Out (a : Value) : Prop := a = .none ∨ ∃ T : Addr, a = rawInt T

section
variable {prog : Program} {w : World} {A : Around} {E : Value → Shared → Prop} {s : Shared} {z ti to i1 i2 i3 l1 l2 l3 : Addr} {a a1 a2 a3 : Value} {f : Bool} {xs ys zs : Array Value} {i : Nat}

theorem freeOr {Q : Bool → Shared → Prop} (ho : Out a) (hz : Zat s.heap z ti to a (.bool f))
    (h : ∀ (b : Bool) (h' : Heap) (g : Bool), Zat h' z ti to a (.bool g) → Heap.SameBut z s.heap h' → Q b { s with heap := h' }) :
    wpAny (model prog w) A (Builtin.SmallTypes.ownedTupleIsFree (.ref z)) Q E s := by
  unfold Builtin.SmallTypes.ownedTupleIsFree
  refine wpAny_bind (wpAny_field hz rfl (x := a) rfl ?_)
  rcases ho with e | ⟨T, e⟩
  · subst e
    exact wpAny_pure (h true s.heap f hz (Heap.SameBut.refl _ _))
  · subst e
    show wpAny _ _ (loadIfAlive ((T : Int).toNat) >>= _) _ _ _
    rw [Int.toNat_natCast]
    refine wpAny_bind ?_
    cases e : s.heap.get? T with
    | none =>
      have key : wpAny (model prog w) A (loadIfAlive T) (fun r s' => r = none ∧ s' = s) E s := fun _ _ _ => ⟨e, rfl⟩
      refine thn key fun r s' q => ?_
      obtain ⟨rfl, rfl⟩ := q
      exact wpAny_pure (h true _ f hz (Heap.SameBut.refl _ _))
    | some o =>
      refine PySem.W.kdx_alive e ?_
      simp only [Option.isNone_some, Bool.false_eq_true, if_false]
      refine wpAny_bind (wpAny_field hz rfl (x := .bool f) rfl ?_)
      cases f with
      | true =>
        rw [if_neg (show ¬ ((Value.bool true != Value.bool true) = true) by decide)]
        exact wpAny_pure (h false s.heap true hz (Heap.SameBut.refl _ _))
      | false =>
        rw [if_pos (show (Value.bool false != Value.bool true) = true by decide)]
        exact wpAny_bind (wpAny_setField_rec hz (by simp) fun h1 z1 s1 => wpAny_pure (h false h1 true z1 s1))

/-- the three iterators over their tuples at turn i, apart from the zip's own cells -/
abbrev St3 (h : Heap) (i1 i2 i3 l1 l2 l3 : Addr) (xs ys zs : Array Value) (i : Nat) : Prop :=
  (h.IsTupleIter i1 l1 i ∧ h.IsTuple l1 xs) ∧ (h.IsTupleIter i2 l2 i ∧ h.IsTuple l2 ys) ∧ (h.IsTupleIter i3 l3 i ∧ h.IsTuple l3 zs)

theorem keepIt {h h' : Heap} {it l : Addr} {k : Nat} {vs : Array Value} (st : h.IsTupleIter it l k ∧ h.IsTuple l vs) {x : Addr} (hs : Heap.SameBut x h h') (n1 : it ≠ x) (n2 : l ≠ x) : h'.IsTupleIter it l k ∧ h'.IsTuple l vs :=
  ⟨st.1.extBut hs.extBut n1, st.2.extBut hs.extBut n2⟩

structure Far3 (z ti to i1 i2 i3 l1 l2 l3 : Addr) : Prop where
  tiz : ti ≠ z
  toz : to ≠ z
  tito : ti ≠ to
  ti1 : ti ≠ i1
  ti2 : ti ≠ i2
  ti3 : ti ≠ i3
  to1 : to ≠ i1
  to2 : to ≠ i2
  to3 : to ≠ i3
  z1 : i1 ≠ z
  z2 : i2 ≠ z
  z3 : i3 ≠ z
  n12 : i1 ≠ i2
  n13 : i1 ≠ i3
  n23 : i2 ≠ i3
  l1n : l1 ≠ z ∧ l1 ≠ to ∧ l1 ≠ i1 ∧ l1 ≠ i2 ∧ l1 ≠ i3
  l2n : l2 ≠ z ∧ l2 ≠ to ∧ l2 ≠ i1 ∧ l2 ≠ i2 ∧ l2 ≠ i3
  l3n : l3 ≠ z ∧ l3 ≠ to ∧ l3 ≠ i1 ∧ l3 ≠ i2 ∧ l3 ≠ i3

theorem drawT {it l : Addr} {k : Nat} {vs : Array Value} {x : Value} {Q : Value → Shared → Prop} (st : s.heap.IsTupleIter it l k ∧ s.heap.IsTuple l vs) (ne : l ≠ it) (hx : vs[k]? = some x)
    (h : ∀ h', (h'.IsTupleIter it l (k + 1) ∧ h'.IsTuple l vs) → Heap.SameBut it s.heap h' → Q x { s with heap := h' }) :
    wpAny (model prog w) A (Builtin.SmallTypes.nextOf (.ref it)) Q E s :=
  RZ.nextOf_tuple_item st.1 st.2 hx fun h' q1 q2 => h h' ⟨q1, st.2.extBut q2.extBut ne⟩ q2

theorem next3 {x1 x2 x3 : Value} {Q : Value → Shared → Prop} (D : Far3 z ti to i1 i2 i3 l1 l2 l3) (ho : Out a) (hz : Zat s.heap z ti to a (.bool f))
    (hI : IsTupOf3 s.heap ti (.ref i1) (.ref i2) (.ref i3)) (hO : IsTupOf3 s.heap to a1 a2 a3) (st : St3 s.heap i1 i2 i3 l1 l2 l3 xs ys zs i)
    (hx : xs[i]? = some x1) (hy : ys[i]? = some x2) (hw : zs[i]? = some x3)
    (hQ : ∀ (h' : Heap) (a' : Value) (g : Bool) (b1 b2 b3 : Value), Out a' → Zat h' z ti to a' (.bool g) → IsTupOf3 h' to b1 b2 b3 → St3 h' i1 i2 i3 l1 l2 l3 xs ys zs (i + 1) → IsTupOf3 h' s.heap.objs.size x1 x2 x3 → h'.objs.size = s.heap.objs.size + 1 →
      (∀ c o, c ≠ z → c ≠ to → c ≠ i1 → c ≠ i2 → c ≠ i3 → s.heap.get? c = some o → h'.get? c = some o) → Q (.ref s.heap.objs.size) { s with heap := h' }) :
    wpAny (model prog w) A (Builtin.«zip.__next__» ⟨[.ref z], []⟩) (fun fin s' => ∃ v, fin = .done (.ret v) ∧ Q v s') E s := by
  obtain ⟨hp, gg, dd, tk, os⟩ := s
  show wpAny _ _ (field (.ref z) 2 >>= _) _ _ _
  refine wpAny_bind (wpAny_field hz rfl (x := .bool false) rfl ?_)
  show wpAny _ _ (field (.ref z) 3 >>= _) _ _ _
  refine wpAny_bind (wpAny_field hz rfl (x := .ref ti) rfl ?_)
  refine wpAny_bind (wpAny_seqItems hI rfl ?_)
  show wpAny _ _ (Builtin.SmallTypes.ownedTupleIsFree (.ref z) >>= _) _ _ _
  refine wpAny_bind (freeOr ho hz fun b h1 f1 hz1 hs1 => ?_)
  replace hs1 : Heap.SameBut z hp h1 := hs1
  obtain ⟨sa, sb, sc⟩ := st
  have sa1 := keepIt sa hs1 D.z1 D.l1n.1
  have sb1 := keepIt sb hs1 D.z2 D.l2n.1
  have sc1 := keepIt sc hs1 D.z3 D.l3n.1
  have hO1 : IsTupOf3 h1 to a1 a2 a3 := hs1.extBut _ _ D.toz hO
  cases b with
  | false =>
    simp only [Bool.false_eq_true, if_false]
    refine wpAny_bind ?_
    rw [← Array.forIn_toList]
    simp only [List.forIn_cons, List.forIn_nil]
    refine wpAny_bind (wpAny_bind (wpAny_holding ?_))
    show wpAny _ _ (Builtin.SmallTypes.nextOf (.ref i1) >>= _) _ _ ⟨h1, gg, dd, tk, os⟩
    refine wpAny_bind (drawT (s := ⟨h1, gg, dd, tk, os⟩) sa1 D.l1n.2.2.1 hx fun h2 sa2 hs2 => wpAny_pure (wpAny_pure ?_))
    replace hs2 : Heap.SameBut i1 h1 h2 := hs2
    have sb2 := keepIt sb1 hs2 D.n12.symm D.l2n.2.2.1
    have sc2 := keepIt sc1 hs2 D.n13.symm D.l3n.2.2.1
    refine wpAny_bind (wpAny_bind (wpAny_holding ?_))
    show wpAny _ _ (Builtin.SmallTypes.nextOf (.ref i2) >>= _) _ _ ⟨h2, gg, dd, tk, os⟩
    refine wpAny_bind (drawT (s := ⟨h2, gg, dd, tk, os⟩) sb2 D.l2n.2.2.2.1 hy fun h3 sb3 hs3 => wpAny_pure (wpAny_pure ?_))
    replace hs3 : Heap.SameBut i2 h2 h3 := hs3
    have sa3 := keepIt sa2 hs3 D.n12 D.l1n.2.2.2.1
    have sc3 := keepIt sc2 hs3 D.n23.symm D.l3n.2.2.2.1
    refine wpAny_bind (wpAny_bind (wpAny_holding ?_))
    show wpAny _ _ (Builtin.SmallTypes.nextOf (.ref i3) >>= _) _ _ ⟨h3, gg, dd, tk, os⟩
    refine wpAny_bind (drawT (s := ⟨h3, gg, dd, tk, os⟩) sc3 D.l3n.2.2.2.2 hw fun h4 sc4 hs4 => wpAny_pure (wpAny_pure (wpAny_pure ?_)))
    replace hs4 : Heap.SameBut i3 h3 h4 := hs4
    have sa4 := keepIt sa3 hs4 D.n13 D.l1n.2.2.2.2
    have sb4 := keepIt sb3 hs4 D.n23 D.l2n.2.2.2.2
    show wpAny _ _ (newTuple [x1, x2, x3] >>= _) _ _ ⟨h4, gg, dd, tk, os⟩
    refine wpAny_bind (wpAny_newTuple (wpAny_pure ⟨_, rfl, ?_⟩))
    have sz : h4.objs.size = hp.objs.size := by rw [hs4.1, hs3.1, hs2.1, hs1.1]
    have kk : ∀ c o, c ≠ z → c ≠ i1 → c ≠ i2 → c ≠ i3 → hp.get? c = some o → h4.get? c = some o := fun c o c0 c1 c2 c3 e =>
      hs4.extBut _ _ c3 (hs3.extBut _ _ c2 (hs2.extBut _ _ c1 (hs1.extBut _ _ c0 e)))
    have hz4 : Zat h4 z ti to a (.bool f1) := hs4.extBut _ _ D.z3.symm (hs3.extBut _ _ D.z2.symm (hs2.extBut _ _ D.z1.symm hz1))
    have hO4 : IsTupOf3 h4 to a1 a2 a3 := kk _ _ D.toz D.to1 D.to2 D.to3 hO
    have up : ∀ c o, h4.get? c = some o → (h4.push { cls := .type "tuple", data := .seq #[x1, x2, x3] }).get? c = some o := fun c o e => Heap.get?_push_of_some _ e
    have nw : IsTupOf3 (h4.push { cls := .type "tuple", data := .seq #[x1, x2, x3] }) h4.objs.size x1 x2 x3 := Heap.get?_push_size _ rfl
    have zw : (h4.push { cls := .type "tuple", data := .seq #[x1, x2, x3] }).objs.size = h4.objs.size + 1 := Heap.size_push ..
    show Q (.ref h4.objs.size) _
    rw [sz] at nw zw ⊢
    exact hQ _ a f1 a1 a2 a3 ho (up _ _ hz4) (up _ _ hO4)
      ⟨⟨sa4.1.at fun o e => up _ o e, sa4.2.push _⟩, ⟨sb4.1.at fun o e => up _ o e, sb4.2.push _⟩, ⟨sc4.1.at fun o e => up _ o e, sc4.2.push _⟩⟩ nw zw
      fun c o c0 _ c1 c2 c3 e => up c o (kk c o c0 c1 c2 c3 e)
  | true =>
    simp only [if_true]
    refine wpAny_bind (wpAny_rule ?_)
    refine wpAny_bind (wpAny_field (s := ⟨h1, gg, dd, tk, os⟩) hz1 rfl (x := .ref to) rfl ?_)
    refine wpAny_bind (wpAny_setField_rec (s := ⟨h1, gg, dd, tk, os⟩) hz1 (by simp) fun g0 z0 s0 => ?_)
    replace z0 : Zat g0 z ti to .ellipsis (.bool f1) := z0
    replace s0 : Heap.SameBut z h1 g0 := s0
    have ta0 := keepIt sa1 s0 D.z1 D.l1n.1
    have tb0 := keepIt sb1 s0 D.z2 D.l2n.1
    have tc0 := keepIt sc1 s0 D.z3 D.l3n.1
    have o0 : IsTupOf3 g0 to a1 a2 a3 := s0.extBut _ _ D.toz hO1
    refine wpAny_bind ?_
    simp only [List.zipIdx_cons, List.zipIdx_nil, List.forIn_cons, List.forIn_nil]
    refine wpAny_bind (wpAny_bind (wpAny_onRaise ?_))
    show wpAny _ _ (Builtin.SmallTypes.nextOf (.ref i1) >>= _) _ _ ⟨g0, gg, dd, tk, os⟩
    refine wpAny_bind (drawT (s := ⟨g0, gg, dd, tk, os⟩) ta0 D.l1n.2.2.1 hx fun p1 ta1 s1 => wpAny_pure ?_)
    replace s1 : Heap.SameBut i1 g0 p1 := s1
    have o1 : IsTupOf3 p1 to a1 a2 a3 := s1.extBut _ _ D.to1 o0
    refine wpAny_bind (wpAny_seqItems (s := ⟨p1, gg, dd, tk, os⟩) o1 rfl ?_)
    refine wpAny_bind (updateSeq_IsTupOf3 (s := ⟨p1, gg, dd, tk, os⟩) o1 fun q1 u1 r1 => wpAny_bind (wpAny_letGo (wpAny_pure ?_)))
    replace u1 : IsTupOf3 q1 to x1 a2 a3 := u1
    replace r1 : Heap.SameBut to p1 q1 := r1
    have ta2 := keepIt ta1 r1 D.to1.symm D.l1n.2.1
    have tb2 := keepIt (keepIt tb0 s1 D.n12.symm D.l2n.2.2.1) r1 D.to2.symm D.l2n.2.1
    have tc2 := keepIt (keepIt tc0 s1 D.n13.symm D.l3n.2.2.1) r1 D.to3.symm D.l3n.2.1
    refine wpAny_bind (wpAny_bind (wpAny_onRaise ?_))
    show wpAny _ _ (Builtin.SmallTypes.nextOf (.ref i2) >>= _) _ _ ⟨q1, gg, dd, tk, os⟩
    refine wpAny_bind (drawT (s := ⟨q1, gg, dd, tk, os⟩) tb2 D.l2n.2.2.2.1 hy fun p2 tb3 s2 => wpAny_pure ?_)
    replace s2 : Heap.SameBut i2 q1 p2 := s2
    have o2 : IsTupOf3 p2 to x1 a2 a3 := s2.extBut _ _ D.to2 u1
    refine wpAny_bind (wpAny_seqItems (s := ⟨p2, gg, dd, tk, os⟩) o2 rfl ?_)
    refine wpAny_bind (updateSeq_IsTupOf3 (s := ⟨p2, gg, dd, tk, os⟩) o2 fun q2 u2 r2 => wpAny_bind (wpAny_letGo (wpAny_pure ?_)))
    replace u2 : IsTupOf3 q2 to x1 x2 a3 := u2
    replace r2 : Heap.SameBut to p2 q2 := r2
    have ta4 := keepIt (keepIt ta2 s2 D.n12 D.l1n.2.2.2.1) r2 D.to1.symm D.l1n.2.1
    have tb4 := keepIt tb3 r2 D.to2.symm D.l2n.2.1
    have tc4 := keepIt (keepIt tc2 s2 D.n23.symm D.l3n.2.2.2.1) r2 D.to3.symm D.l3n.2.1
    refine wpAny_bind (wpAny_bind (wpAny_onRaise ?_))
    show wpAny _ _ (Builtin.SmallTypes.nextOf (.ref i3) >>= _) _ _ ⟨q2, gg, dd, tk, os⟩
    refine wpAny_bind (drawT (s := ⟨q2, gg, dd, tk, os⟩) tc4 D.l3n.2.2.2.2 hw fun p3 tc5 s3 => wpAny_pure ?_)
    replace s3 : Heap.SameBut i3 q2 p3 := s3
    have o3 : IsTupOf3 p3 to x1 x2 a3 := s3.extBut _ _ D.to3 u2
    refine wpAny_bind (wpAny_seqItems (s := ⟨p3, gg, dd, tk, os⟩) o3 rfl ?_)
    refine wpAny_bind (updateSeq_IsTupOf3 (s := ⟨p3, gg, dd, tk, os⟩) o3 fun q3 u3 r3 => wpAny_bind (wpAny_letGo (wpAny_pure (wpAny_pure ?_))))
    replace u3 : IsTupOf3 q3 to x1 x2 x3 := u3
    replace r3 : Heap.SameBut to p3 q3 := r3
    have ta6 := keepIt (keepIt ta4 s3 D.n13 D.l1n.2.2.2.2) r3 D.to1.symm D.l1n.2.1
    have tb6 := keepIt (keepIt tb4 s3 D.n23 D.l2n.2.2.2.2) r3 D.to2.symm D.l2n.2.1
    have tc6 := keepIt tc5 r3 D.to3.symm D.l3n.2.1
    refine wpAny_bind (wpAny_seqItems (s := ⟨q3, gg, dd, tk, os⟩) u3 rfl (wpAny_bind (wpAny_newTuple ?_)))
    have sz : q3.objs.size = hp.objs.size := by rw [r3.1, s3.1, r2.1, s2.1, r1.1, s1.1, s0.1, hs1.1]
    have hz3 : Zat q3 z ti to .ellipsis (.bool f1) := r3.extBut _ _ D.toz.symm (s3.extBut _ _ D.z3.symm (r2.extBut _ _ D.toz.symm (s2.extBut _ _ D.z2.symm (r1.extBut _ _ D.toz.symm (s1.extBut _ _ D.z1.symm z0)))))
    have kk : ∀ c o, c ≠ z → c ≠ to → c ≠ i1 → c ≠ i2 → c ≠ i3 → hp.get? c = some o → q3.get? c = some o := fun c o c0 ct c1 c2 c3 e =>
      r3.extBut _ _ ct (s3.extBut _ _ c3 (r2.extBut _ _ ct (s2.extBut _ _ c2 (r1.extBut _ _ ct (s1.extBut _ _ c1 (s0.extBut _ _ c0 (hs1.extBut _ _ c0 e)))))))
    have zlt : z < q3.objs.size := Heap.lt_size hz3
    show wpAny _ _ (Builtin.SmallTypes.ownedTupleHandOut (.ref z) (.ref q3.objs.size) >>= _) _ _ ⟨q3.push { cls := .type "tuple", data := .seq #[x1, x2, x3] }, gg, dd, tk, os⟩
    refine wpAny_bind ?_
    unfold Builtin.SmallTypes.ownedTupleHandOut
    have z5 : Zat (q3.push { cls := .type "tuple", data := .seq #[x1, x2, x3] }) z ti to .ellipsis (.bool f1) := Heap.get?_push_of_some _ hz3
    refine wpAny_bind (wpAny_setField_rec z5 (by simp) fun h7 z7 s7 => ?_)
    replace z7 : Zat h7 z ti to (rawInt q3.objs.size) (.bool f1) := z7
    replace s7 : Heap.SameBut z (q3.push { cls := .type "tuple", data := .seq #[x1, x2, x3] }) h7 := s7
    refine wpAny_setField_rec z7 (by simp) fun h8 z8 s8 => ?_
    replace z8 : Zat h8 z ti to (rawInt q3.objs.size) (.bool false) := z8
    replace s8 : Heap.SameBut z h7 h8 := s8
    have up : ∀ c o, c ≠ z → q3.get? c = some o → h8.get? c = some o := fun c o c1 e => s8.extBut _ _ c1 (s7.extBut _ _ c1 (Heap.get?_push_of_some _ e))
    have nw : IsTupOf3 h8 q3.objs.size x1 x2 x3 := s8.extBut _ _ (Nat.ne_of_gt zlt) (s7.extBut _ _ (Nat.ne_of_gt zlt) (Heap.get?_push_size _ rfl))
    have zw : h8.objs.size = q3.objs.size + 1 := by rw [s8.1, s7.1, Heap.size_push]
    have fin : ∀ {it l : Addr} {k : Nat} {vs : Array Value}, (q3.IsTupleIter it l k ∧ q3.IsTuple l vs) → it ≠ z → l ≠ z → h8.IsTupleIter it l k ∧ h8.IsTuple l vs := fun {it l k vs} st n1 n2 =>
      keepIt (keepIt ⟨st.1.at fun o e => Heap.get?_push_of_some _ e, st.2.push _⟩ s7 n1 n2) s8 n1 n2
    refine wpAny_pure ⟨_, rfl, ?_⟩
    show Q (.ref q3.objs.size) _
    rw [sz] at nw zw z8 ⊢
    exact hQ h8 _ false x1 x2 x3 (.inr ⟨_, rfl⟩) z8 (up _ _ D.toz u3) ⟨fin ta6 D.z1 D.l1n.1, fin tb6 D.z2 D.l2n.1, fin tc6 D.z3 D.l3n.1⟩ nw zw
      fun c o c0 ct c1 c2 c3 e => up c o c0 (kk c o c0 ct c1 c2 c3 e)

theorem end3 {Q : Fin → Shared → Prop} (hh : A.handled = none) (D : Far3 z ti to i1 i2 i3 l1 l2 l3) (ho : Out a) (hz : Zat s.heap z ti to a (.bool f))
    (hI : IsTupOf3 s.heap ti (.ref i1) (.ref i2) (.ref i3)) (st : s.heap.IsTupleIter i1 l1 i ∧ s.heap.IsTuple l1 xs) (hx : xs[i]? = none)
    (hE : ∀ h' e, (∀ c o, c ≠ z → c ≠ to → c ≠ i1 → c ≠ i2 → c ≠ i3 → s.heap.get? c = some o → h'.get? c = some o) → (∃ o, h'.get? e = some o ∧ o.cls = .type "StopIteration") → E (.ref e) { s with heap := h' }) :
    wpAny (model prog w) A (Builtin.«zip.__next__» ⟨[.ref z], []⟩) Q E s := by
  obtain ⟨hp, gg, dd, tk, os⟩ := s
  show wpAny _ _ (field (.ref z) 2 >>= _) _ _ _
  refine wpAny_bind (wpAny_field hz rfl (x := .bool false) rfl ?_)
  show wpAny _ _ (field (.ref z) 3 >>= _) _ _ _
  refine wpAny_bind (wpAny_field hz rfl (x := .ref ti) rfl ?_)
  refine wpAny_bind (wpAny_seqItems hI rfl ?_)
  show wpAny _ _ (Builtin.SmallTypes.ownedTupleIsFree (.ref z) >>= _) _ _ _
  refine wpAny_bind (freeOr ho hz fun b h1 f1 hz1 hs1 => ?_)
  replace hs1 : Heap.SameBut z hp h1 := hs1
  have sa1 := keepIt st hs1 D.z1 D.l1n.1
  cases b with
  | false =>
    simp only [Bool.false_eq_true, if_false]
    refine wpAny_bind ?_
    rw [← Array.forIn_toList]
    simp only [List.forIn_cons, List.forIn_nil]
    refine wpAny_bind (wpAny_bind (wpAny_holding ?_))
    show wpAny _ _ (Builtin.SmallTypes.nextOf (.ref i1) >>= _) _ _ ⟨h1, gg, dd, tk, os⟩
    refine wpAny_bind (RZ.nextOf_tuple_end (s := ⟨h1, gg, dd, tk, os⟩) hh sa1.1 sa1.2 hx fun h2 e hs2 he => ?_)
    exact hE h2 e (fun c o c0 _ c1 _ _ q => hs2 _ _ c1 (hs1.extBut _ _ c0 q)) he
  | true =>
    simp only [if_true]
    refine wpAny_bind (wpAny_rule ?_)
    refine wpAny_bind (wpAny_field (s := ⟨h1, gg, dd, tk, os⟩) hz1 rfl (x := .ref to) rfl ?_)
    refine wpAny_bind (wpAny_setField_rec (s := ⟨h1, gg, dd, tk, os⟩) hz1 (by simp) fun g0 z0 s0 => ?_)
    replace z0 : Zat g0 z ti to .ellipsis (.bool f1) := z0
    replace s0 : Heap.SameBut z h1 g0 := s0
    have ta0 := keepIt sa1 s0 D.z1 D.l1n.1
    refine wpAny_bind ?_
    simp only [List.zipIdx_cons, List.zipIdx_nil, List.forIn_cons, List.forIn_nil]
    refine wpAny_bind (wpAny_bind (wpAny_onRaise ?_))
    show wpAny _ _ (Builtin.SmallTypes.nextOf (.ref i1) >>= _) _ _ ⟨g0, gg, dd, tk, os⟩
    refine wpAny_bind (RZ.nextOf_tuple_end (s := ⟨g0, gg, dd, tk, os⟩) hh ta0.1 ta0.2 hx fun h2 e hs2 he => ?_)
    obtain ⟨oe, hoe, hce⟩ := he
    replace hs2 : Heap.ExtBut i1 g0 h2 := hs2
    replace hoe : h2.get? e = some oe := hoe
    have z2 : Zat h2 z ti to .ellipsis (.bool f1) := hs2 _ _ D.z1.symm z0
    have ne : e ≠ z := fun q => by subst q; rw [z2] at hoe; cases hoe; simp at hce
    refine wpAny_setField_rec (s := ⟨h2, gg, dd, tk, os⟩) z2 (by simp) fun h3 _ s3 => ?_
    replace s3 : Heap.SameBut z h2 h3 := s3
    exact hE h3 e (fun c o c0 _ c1 _ _ q => s3.extBut _ _ c0 (hs2 _ _ c1 (s0.extBut _ _ c0 (hs1.extBut _ _ c0 q)))) ⟨oe, s3.extBut _ _ ne hoe, hce⟩
end
end NB

set_option Elab.async false
set_option linter.all false
set_option maxRecDepth 100000
set_option maxHeartbeats 1000000
namespace NB
open PySem PySem.Spec PyProof.Rows L2

section
variable {prog : Program} {w : World} {A : Around} {E : Value → Shared → Prop} {s : Shared} {z ti to i1 i2 i3 l1 l2 l3 : Addr} {a a1 a2 a3 : Value} {f : Bool} {xs ys zs : Array Value} {i : Nat}

theorem pyNext3 {x1 x2 x3 : Value} {Q : Option Value → Shared → Prop} (D : Far3 z ti to i1 i2 i3 l1 l2 l3) (ho : Out a) (hz : Zat s.heap z ti to a (.bool f))
    (hI : IsTupOf3 s.heap ti (.ref i1) (.ref i2) (.ref i3)) (hO : IsTupOf3 s.heap to a1 a2 a3) (st : St3 s.heap i1 i2 i3 l1 l2 l3 xs ys zs i)
    (hx : xs[i]? = some x1) (hy : ys[i]? = some x2) (hw : zs[i]? = some x3)
    (hQ : ∀ (h' : Heap) (a' : Value) (g : Bool) (b1 b2 b3 : Value), Out a' → Zat h' z ti to a' (.bool g) → IsTupOf3 h' to b1 b2 b3 → St3 h' i1 i2 i3 l1 l2 l3 xs ys zs (i + 1) → IsTupOf3 h' s.heap.objs.size x1 x2 x3 → h'.objs.size = s.heap.objs.size + 1 →
      (∀ c o, c ≠ z → c ≠ to → c ≠ i1 → c ≠ i2 → c ≠ i3 → s.heap.get? c = some o → h'.get? c = some o) → Q (some (.ref s.heap.objs.size)) { s with heap := h' }) :
    wpAny (model prog w) A (pyNext (.ref z)) Q E s := by
  have ty : s.TypeIs (.ref z) "zip" := ⟨_, hz, rfl⟩
  unfold pyNext
  refine wpAny_bind (wpAny_attempt (wpAny_callSpecial?_slot (name := Str.ofString "__next__") ty F.slot_zip_next ?_))
  refine wpAny_call_entry F.slot_zip_next ty F.entry_zip_next ?_ (F.args_zip_next_1 _)
  exact next3 D ho hz hI hO st hx hy hw fun h' a' g b1 b2 b3 c1 c2 c3 c4 c5 c6 c7 => wpAny_pure (hQ h' a' g b1 b2 b3 c1 c2 c3 c4 c5 c6 c7)

theorem pyEnd3 {Q : Option Value → Shared → Prop} (hh : A.handled = none) (D : Far3 z ti to i1 i2 i3 l1 l2 l3) (ho : Out a) (hz : Zat s.heap z ti to a (.bool f))
    (hI : IsTupOf3 s.heap ti (.ref i1) (.ref i2) (.ref i3)) (st : s.heap.IsTupleIter i1 l1 i ∧ s.heap.IsTuple l1 xs) (hx : xs[i]? = none)
    (hQ : ∀ h', (∀ c o, c ≠ z → c ≠ to → c ≠ i1 → c ≠ i2 → c ≠ i3 → s.heap.get? c = some o → h'.get? c = some o) → Q none { s with heap := h' }) :
    wpAny (model prog w) A (pyNext (.ref z)) Q E s := by
  have ty : s.TypeIs (.ref z) "zip" := ⟨_, hz, rfl⟩
  unfold pyNext
  refine wpAny_bind (wpAny_attempt (wpAny_callSpecial?_slot (name := Str.ofString "__next__") ty F.slot_zip_next ?_))
  refine wpAny_call_entry F.slot_zip_next ty F.entry_zip_next (end3 hh D ho hz hI st hx fun h' e hk he => ?_) (F.args_zip_next_1 _)
  obtain ⟨o, h1, h2⟩ := he
  exact wpAny_bind (wpAny_isInstance (T := "StopIteration") (b := true) ⟨o, h1, h2⟩ isSubtype_stop (wpAny_pure (hQ _ hk)))

/-- ahead of the target's store: a target of several names lets the tuple go -/
theorem letGo3 {tg : Expr} {T : Addr} {Q : Unit → Shared → Prop} (ho : Out a) (hz : Zat s.heap z ti to a (.bool f))
    (h : ∀ (h' : Heap) (a' : Value), Out a' → Zat h' z ti to a' (.bool f) → Heap.SameBut z s.heap h' → Q () { s with heap := h' }) :
    wpAny (model prog w) A (letOwnedTupleGo tg (.ref z) (.ref T)) Q E s := by
  have same : Q () s := h s.heap a ho hz (Heap.SameBut.refl _ _)
  have main : wpAny (model prog w) A (do
      let o ← load z
      match o.cls, o.data with
      | .type n, .fields vs =>
        if ["enumerate", "zip", "dict_itemiterator", "dict_reverseitemiterator", "odict_iterator", "itertools.zip_longest", "itertools.pairwise"].contains n && vs[0]? == some (rawInt T) then
          rule "for.unpacks-the-owned-tuple"
          updateField z 0 .none
      | _, _ => pure ()) Q E s := by
    refine wpAny_bind (wpAny_load hz ?_)
    dsimp only
    split
    · refine wpAny_bind (wpAny_rule ?_)
      show wpAny _ _ (setField (.ref z) 0 .none) Q E s
      exact wpAny_setField_rec hz (by simp) fun h' z' s' => h h' .none (.inl rfl) z' s'
    · exact wpAny_pure same
  unfold letOwnedTupleGo
  cases tg <;> first
    | exact wpAny_pure same
    | exact main

theorem iter3 {Q : Value → Shared → Prop} (hz : Zat s.heap z ti to a (.bool f)) (h : Q (.ref z) s) : wpAny (model prog w) A (pyIter (.ref z)) Q E s := by
  have ty : s.TypeIs (.ref z) "zip" := ⟨_, hz, rfl⟩
  refine wpAny_pyIter_slot ty F.slot_zip_iter (wpAny_call_entry F.slot_zip_iter ty F.entry_zip_iter ?_ (F.args_zip_iter_1 _))
  show wpAny _ _ (ret (.ref z)) _ _ s
  exact wpAny_pure ⟨_, rfl, "zip", _, ty, F.slot_zip_next.lookup, h⟩
end

/-- three tuples of one length, turn by turn: a new tuple of the three items -/
def It3 (K : PySem.W.Frag) (a b c : Addr) : It :=
  ⟨fun i H => ∃ (xs ys zs : List V) (x y z : V), SqT K H a xs ∧ SqT K H b ys ∧ SqT K H c zs ∧ xs[i]? = some x ∧ ys[i]? = some y ∧ zs[i]? = some z,
    fun i H v H' => ∃ T x y z, v = .ref T ∧ H T = none ∧ H' = upd H T (.tup [x, y, z]) ∧ (∀ xs, SqT K H a xs → xs[i]? = some x) ∧ (∀ ys, SqT K H b ys → ys[i]? = some y) ∧ ∀ zs, SqT K H c zs → zs[i]? = some z,
    fun i H => ∃ xs : List V, SqT K H a xs ∧ xs.length ≤ i⟩

theorem turn3 {P : Program} {w : World} {K : PySem.W.Frag} {tg : Expr} {a b c z ti to i1 i2 i3 : Addr} (D : Far3 z ti to i1 i2 i3 a b c) :
    Turn P w K tg (It3 K a b c) [z, ti, to, i1, i2, i3] z (fun i h => (∃ v f, Out v ∧ Zat h z ti to v (.bool f)) ∧ IsTupOf3 h ti (.ref i1) (.ref i2) (.ref i3) ∧ (∃ b1 b2 b3, IsTupOf3 h to b1 b2 b3) ∧
      h.IsTupleIter i1 a i ∧ h.IsTupleIter i2 b i ∧ h.IsTupleIter i3 c i) where
  mem := by simp
  obj := fun i h st q hq => by
    obtain ⟨⟨v, f, _, hz⟩, hI, ⟨b1, b2, b3, hO⟩, ⟨o1, e1, _, d1⟩, ⟨o2, e2, _, d2⟩, ⟨o3, e3, _, d3⟩⟩ := st
    have e' : q = z ∨ q = ti ∨ q = to ∨ q = i1 ∨ q = i2 ∨ q = i3 := by simpa using hq
    rcases e' with r | r | r | r | r | r
    · rw [r]; exact ⟨_, hz, fun v q => nomatch q⟩
    · rw [r]; exact ⟨_, hI, fun v q => nomatch q⟩
    · rw [r]; exact ⟨_, hO, fun v q => nomatch q⟩
    · rw [r]; exact ⟨o1, e1, fun v q => by rw [d1] at q; cases q⟩
    · rw [r]; exact ⟨o2, e2, fun v q => by rw [d2] at q; cases q⟩
    · rw [r]; exact ⟨o3, e3, fun v q => by rw [d3] at q; cases q⟩
  keep := fun i h h' st k => by
    obtain ⟨⟨v, f, ho, hz⟩, hI, ⟨b1, b2, b3, hO⟩, h1, h2, h3⟩ := st
    exact ⟨⟨v, f, ho, k z (by simp) _ hz⟩, k ti (by simp) _ hI, ⟨b1, b2, b3, k to (by simp) _ hO⟩, h1.at fun o q => k i1 (by simp) o q, h2.at fun o q => k i2 (by simp) o q, h3.at fun o q => k i3 (by simp) o q⟩
  item := by
    intro X hP hw hK hc i pins s σ H E I hf st hg
    subst hP hw hK
    obtain ⟨⟨v, f, ho, hz⟩, hI, ⟨b1, b2, b3, hO⟩, h1, h2, h3⟩ := st
    obtain ⟨xs, ys, zs, x, y, u, qx, qy, qu, hx, hy, hu⟩ := hg
    obtain ⟨t1, r1, p1, _⟩ := I.tuple qx
    obtain ⟨t2, r2, p2, _⟩ := I.tuple qy
    obtain ⟨t3, r3, p3, _⟩ := I.tuple qu
    obtain ⟨v1, g1, rv1⟩ := r1.get hx
    obtain ⟨v2, g2, rv2⟩ := r2.get hy
    obtain ⟨v3, g3, rv3⟩ := r3.get hu
    have zl : z < s.heap.objs.size := Heap.lt_size hz
    refine pyNext3 D ho hz hI hO ⟨⟨h1, p1⟩, ⟨h2, p2⟩, ⟨h3, p3⟩⟩ (x1 := v1) (x2 := v2) (x3 := v3) (by simpa using g1) (by simpa using g2) (by simpa using g3) fun h' v' f' c1 c2 c3 ho' hz' hO' st' hT hsz hk => ?_
    refine ⟨_, rfl, letGo3 (s := { s with heap := h' }) ho' hz' fun h'' v'' ho'' hz'' sb => ?_⟩
    have hT2 : h''.get? s.heap.objs.size = some { cls := .type "tuple", data := .seq #[v1, v2, v3] } := (sb.2 _ (Nat.ne_of_gt zl)).trans hT
    have new : ObjOk X.prog X.w (upd H s.heap.objs.size (.tup [x, y, u])) h'' s.heap.objs.size (.tup [x, y, u]) :=
      ⟨by show 3 ≤ sizeLine; decide, [v1, v2, v3], .cons rv1 (.cons rv2 (.cons rv3 .nil)), ⟨_, hT2, rfl, _, rfl⟩⟩
    have I1 : Inv X pins σ (upd H s.heap.objs.size (.tup [x, y, u])) { s with heap := h'' } :=
      I.turnedNew (t' := s.toks) (ch := [z, ti, to, i1, i2, i3]) (fun q o hb e => (sb.2 q (fun q' => hb (by simp [q']))).trans
        (hk q o (fun q' => hb (by simp [q'])) (fun q' => hb (by simp [q'])) (fun q' => hb (by simp [q'])) (fun q' => hb (by simp [q'])) (fun q' => hb (by simp [q'])) e)) hf (Nat.le_refl _) new
    refine ⟨.ref s.heap.objs.size, _, I1, rfl, ⟨_, x, y, u, rfl, I.hok.fresh (Nat.le_refl _), rfl, fun l hl => by rw [I.tuple_inj hl qx]; exact hx, fun l hl => by rw [I.tuple_inj hl qy]; exact hy, fun l hl => by rw [I.tuple_inj hl qu]; exact hu⟩,
      ⟨⟨v'', f', ho'', hz''⟩, ?_, ⟨c1, c2, c3, (sb.2 _ D.toz).trans hO'⟩, st'.1.1.at fun o q => (sb.2 _ D.z1).trans q, st'.2.1.1.at fun o q => (sb.2 _ D.z2).trans q, st'.2.2.1.at fun o q => (sb.2 _ D.z3).trans q⟩, fun q hq => ?_⟩
    · exact (sb.2 _ D.tiz).trans (hk _ _ D.tiz D.tito D.ti1 D.ti2 D.ti3 hI)
    · have lt : q < s.heap.objs.size := by
        have e' : q = z ∨ q = ti ∨ q = to ∨ q = i1 ∨ q = i2 ∨ q = i3 := by simpa using hq
        rcases e' with r | r | r | r | r | r
        · rw [r]; exact zl
        · rw [r]; exact Heap.lt_size hI
        · rw [r]; exact Heap.lt_size hO
        · rw [r]; obtain ⟨_, e1, _⟩ := h1; exact Heap.lt_size e1
        · rw [r]; obtain ⟨_, e1, _⟩ := h2; exact Heap.lt_size e1
        · rw [r]; obtain ⟨_, e1, _⟩ := h3; exact Heap.lt_size e1
      rw [upd_ne (Nat.ne_of_lt lt)]
      exact (hf q hq).1
  done := by
    intro X hP hw hK hc i pins s σ H E I hf st hg
    subst hP hw hK
    obtain ⟨⟨v, f, ho, hz⟩, hI, ⟨b1, b2, b3, hO⟩, h1, h2, h3⟩ := st
    obtain ⟨xs, qx, hlen⟩ := hg
    obtain ⟨t1, r1, p1, _⟩ := I.tuple qx
    have le := r1.length
    refine pyEnd3 (I.ok.hd hc) D ho hz hI ⟨h1, p1⟩ (by simp; omega) fun h' hk => ⟨rfl, I.turnedL (t' := s.toks) (ch := [z, ti, to, i1, i2, i3]) (fun q o hb e => ?_) hf⟩
    exact hk q o (fun q' => hb (by simp [q'])) (fun q' => hb (by simp [q'])) (fun q' => hb (by simp [q'])) (fun q' => hb (by simp [q'])) (fun q' => hb (by simp [q'])) e
  self := fun A i s Q E st h => by
    obtain ⟨⟨v, f, _, hz⟩, _⟩ := st
    exact iter3 hz h

theorem far_at (n a b c : Nat) (ha : a < n) (hb : b < n) (hc : c < n) : Far3 (n + 5) (n + 3) (n + 4) n (n + 1) (n + 2) a b c := by
  constructor <;> first | (show (_ : Nat) ≠ _; omega) | (refine ⟨?_, ?_, ?_, ?_, ?_⟩ <;> (show (_ : Nat) ≠ _; omega))

def iZip3 (K : PySem.W.Frag) (ta : TA) : TI := fun σ H R => ta σ H fun vs H1 => ∃ a b c xs ys zs, vs = [.ref a, .ref b, .ref c] ∧ SqT K H1 a xs ∧ SqT K H1 b ys ∧ SqT K H1 c zs ∧ R (It3 K a b c) H1
/-- zip(e, e2, e3), tuples of one length; any target -/
theorem pi_zip3 {X : Cx} {tg e e2 e3 : Expr} {ta : TA} {p pos : Pos} (hg : Gl X "zip") (hm : X.mg "zip" = none) (ha : PA X [e, e2, e3] ta)
    (hs : starEach [e, e2, e3] X.env = (false, eval e X.env) :: starEach [e2, e3] X.env := by rfl) (hpl : (backTo pos (starEach [e2, e3] X.env)).any (·.1) = false := by rfl) :
    PI X tg (.Call (.Name "zip" p) [e, e2, e3] [] pos) (iZip3 X.K ta) := by
  refine ⟨fun pins s σ H R I h => ?_⟩
  refine Call_ (ld_blt I hg hm PyProof.Rows.boot_zip (PyProof.Rows.callWith_type1 (thn (ha.run pos pins s σ H _ I h) fun us s1 q => ?_) hs hpl))
  obtain ⟨vs, H1, I1, r1, a, b, c, xs, ys, zs, ex, q1, q2, q3, q⟩ := q
  subst ex
  cases r1 with
  | cons ra rr =>
    cases rr with
    | cons rb rr =>
      cases rr with
      | cons rc rr =>
        cases rr
        cases ra
        cases rb
        cases rc
        obtain ⟨t1, r1, p1, _⟩ := I1.tuple q1
        obtain ⟨t2, r2, p2, _⟩ := I1.tuple q2
        obtain ⟨t3, r3, p3, _⟩ := I1.tuple q3
        obtain ⟨o1, g1, _⟩ := id p1
        obtain ⟨o2, g2, _⟩ := id p2
        obtain ⟨o3, g3, _⟩ := id p3
        refine zip_begins3 (begins_tuple a t1.toArray) (begins_tuple b t2.toArray) (begins_tuple c t3.toArray) p1 p2 p3 fun h' hz hI hO e1 e2 e3 hsz hk => iter3 hz ?_
        have I2 : Inv X pins σ H1 { s1 with heap := h' } := I1.kept (t' := s1.toks) hk
        refine ⟨s1.heap.objs.size + 5, [s1.heap.objs.size + 5, s1.heap.objs.size + 3, s1.heap.objs.size + 4, s1.heap.objs.size, s1.heap.objs.size + 1, s1.heap.objs.size + 2], _, _, H1, rfl, I2, turn3 (far_at s1.heap.objs.size a b c (Heap.lt_size g1) (Heap.lt_size g2) (Heap.lt_size g3)),
          ⟨⟨.none, false, .inl rfl, hz⟩, hI, ⟨_, _, _, hO⟩, ⟨_, e1, rfl, rfl⟩, ⟨_, e2, rfl, rfl⟩, ⟨_, e3, rfl, rfl⟩⟩, fun q hq => ?_, q⟩
        have le : s1.heap.objs.size ≤ q := by
          have e' : q = s1.heap.objs.size + 5 ∨ q = s1.heap.objs.size + 3 ∨ q = s1.heap.objs.size + 4 ∨ q = s1.heap.objs.size ∨ q = s1.heap.objs.size + 1 ∨ q = s1.heap.objs.size + 2 := by simpa using hq
          rcases e' with r | r | r | r | r | r <;> rw [r] <;> first | exact Nat.le_add_right _ _ | exact Nat.le_refl _
        exact I1.fpOk le (I1.hok.fresh le)

/-- a new triple of the i-th ones -/
def Y3 (xs ys zs : List V) : Nat → Hp → V → Hp → Prop := fun i H v H' => ∃ T x y z, v = .ref T ∧ H T = none ∧ H' = upd H T (.tup [x, y, z]) ∧ xs[i]? = some x ∧ ys[i]? = some y ∧ zs[i]? = some z
theorem walk_zip3 {K : PySem.W.Frag} {a b c : Addr} {xs ys zs : List V} (h2 : ys.length = xs.length) (h3 : zs.length = xs.length) :
    Walk (It3 K a b c) xs.length (fun H => SqT K H a xs ∧ SqT K H b ys ∧ SqT K H c zs) (Y3 xs ys zs) := by
  refine ⟨fun i _ hi q => ?_, fun _ q => ⟨xs, q.1, Nat.le_refl _⟩, fun i H v H' _ q y => ?_⟩
  · exact ⟨xs, ys, zs, xs[i], ys[i]'(by omega), zs[i]'(by omega), q.1, q.2.1, q.2.2, by simp [hi], by simp [show i < ys.length by omega], by simp [show i < zs.length by omega]⟩
  · obtain ⟨T, x, y, z, e1, e2, e3, f1, f2, f3⟩ := y
    exact ⟨T, x, y, z, e1, e2, e3, f1 xs q.1, f2 ys q.2.1, f3 zs q.2.2⟩
theorem walk_zipT {K : PySem.W.Frag} {a b : Addr} {xs ys : List V} (h2 : ys.length = xs.length) :
    Walk (RZ.ItzT K a b) xs.length (fun H => SqT K H a xs ∧ SqT K H b ys) (YPair (fun i => xs[i]?) (fun i => ys[i]?)) := by
  refine ⟨fun i _ hi q => ?_, fun _ q => ⟨xs, ys, q.1, q.2, by omega⟩, fun i H v H' _ q y => ?_⟩
  · exact ⟨xs, ys, xs[i], ys[i]'(by omega), q.1, q.2, by simp [hi], by simp [show i < ys.length by omega]⟩
  · obtain ⟨T, x, u, e1, e2, e3, f1, f2⟩ := y
    exact ⟨T, x, u, e1, e2, e3, f1 xs q.1, f2 ys q.2⟩
end NB

set_option Elab.async false
set_option linter.all false
set_option maxRecDepth 100000
set_option maxHeartbeats 1000000
namespace NB
open PySem PySem.Spec PyProof.Rows L2

/-- the law's own call, its def kept to its promise where nothing is being shown -/
theorem law_end {P : Program} {w : World} {K : PySem.W.Frag} {mg mb : Str → Option Value} {k : Nat} {fa a : Addr} {fd : FuncData} {x : Str} {sp : Sp} {s : Shared} {vs : List Value} {ns : List Int}
    (hK : K.In s.heap) (hN : s.heap.Ns mainGlobals mg) (hB : s.heap.Ns builtinsNs mb) (hbb : ∀ x : Str, x ≠ "__name__" → mb x = bootBuiltins x) (lim : s.heap.NoLimit) (hg : s.gens = #[])
    (ha : s.heap.get? a = some { cls := .type "list", data := .seq vs.toArray }) (hi : IntsAre vs ns) (hl : ns.length ≤ sizeLine) (hr : Room k callerA)
    (F : ∀ base : Heap, K.In base → base.Ns mainGlobals mg → FnG P w K mg base k fa fd [x] sp) (hb : ∀ (s : Shared) (u : Value), BindsTo s fd ⟨[u], []⟩ [(x, u)])
    (hsp : ∀ H : Hp, SqL K H a (ns.map V.int) → sp [.ref a] H (fun v _ => v = .bl true) E0) :
    codeAny (model P w) callerA (.call (.ref fa) ⟨[.ref a], []⟩) (fun r s' => r = .ok (.ret (.bool true)) ∧ OldK s.heap s'.heap ∧ s'.os = s.os ∧ AllBare s'.gens) s := by
  have rv := vals_ints hi
  have lv := hi.length
  -- H: the script alone is tracked, or nothing
  suffices go : ∀ H : Hp, (∀ b, H b ≠ none → b = a ∧ K.lookup a = none ∧ ∃ o xs, H b = some (.frz o (.lst xs))) → SqL K H a (ns.map V.int) → HOk P w H s.heap →
      codeAny (model P w) callerA (.call (.ref fa) ⟨[.ref a], []⟩) (fun r s' => r = .ok (.ret (.bool true)) ∧ OldK s.heap s'.heap ∧ s'.os = s.os ∧ AllBare s'.gens) s by
    cases hk : K.lookup a with
    | some o =>
      have e := hK a o hk
      rw [ha] at e
      cases e
      refine go (fun _ => none) (fun b q => absurd rfl q) (.inr ⟨_, vs.toArray, _, hk, rfl, rfl, rfl, ?_, by simpa using rv⟩) (fun b u q => by cases (show (none : Option HO) = some u from q))
      rw [List.size_toArray, lv]
      exact hl
    | none =>
      refine go (fun b => if b = a then some (.frz { cls := .type "list", data := .seq vs.toArray } (.lst (ns.map V.int))) else none) (fun b q => ?_) (.inl (.inr ⟨_, if_pos rfl⟩)) (fun b u q => ?_)
      · by_cases h : b = a
        · exact ⟨h, hk, _, _, if_pos h⟩
        · exact absurd (if_neg h) q
      · by_cases h : b = a
        · have q' := (if_pos h).symm.trans q
          cases q'
          subst h
          exact ⟨ha, by rw [List.length_map]; exact hl, vs, _, rv, ha⟩
        · have q' := (if_neg h).symm.trans q
          cases q'
  intro H hO hS ok
  have dictFree : ∀ {b : Addr} {o : Obj} {es : Array DictEntry} {ep : Nat}, s.heap.get? b = some o → o.data = .dict es ep → H b = none := by
    intro b o es ep e d
    cases q : H b with
    | none => rfl
    | some u =>
      obtain ⟨e', _⟩ := hO b (by rw [q]; simp)
      subst e'
      rw [ha] at e
      cases e
      cases (show Data.seq vs.toArray _ = Data.dict es ep from d)
  have ns' : ∀ {b : Addr} {m : Str → Option Value}, s.heap.Ns b m → (hidT s.heap H).Ns b m := by
    rintro b m ⟨o, es, ep, e, d, r⟩
    exact ⟨o, es, ep, hidT_get e (dictFree e d), d, r⟩
  have kB : K.In (hidT s.heap H) := by
    intro b o e
    refine hidT_get (hK b o e) ?_
    cases q : H b with
    | none => rfl
    | some u =>
      obtain ⟨e', n, _⟩ := hO b (by rw [q]; simp)
      subst e'
      rw [n] at e
      cases e
  have md : Mod K mg (hidT s.heap H) := by
    obtain ⟨mc, h1, h2⟩ := lim
    exact ⟨kB, ns' hN, ⟨mb, ns' hB, hbb⟩, ⟨mc, ns' h1, h2⟩⟩
  have e0 : Env0 P w K mg (hidT s.heap H) callerA [] s H :=
    ⟨rfl, md, fun b o e => of_hidT e, Nat.le_of_eq (hidT_size _ _), trivial, fun b q => absurd (show b ∈ ([] : List Addr) from q) (by simp), ok, .of_eq hg⟩
  refine codeAny_mono ((F _ kB (ns' hN)).go callerA [] s H ⟨[.ref a], []⟩ [.ref a] [.ref a] _ _ rfl hr e0 (hb s (.ref a)) (.cons rfl .nil) (hsp H hS)) ?_
  intro r s' q
  cases r with
  | error e => exact False.elim q
  | ok fl =>
    cases fl with
    | next => exact False.elim q
    | brk => exact False.elim q
    | cont => exact False.elim q
    | ret u =>
      obtain ⟨v, H', os, bare, un, ok', r', q'⟩ := q
      have q2 : v = .bl true := q'
      subst q2
      obtain rfl : u = Value.bool true := r'
      refine ⟨rfl, OldK.of_keep fun b o e => ?_, os, bare⟩
      cases q : H b with
      | none => exact un.keep b o e q (fun z => absurd (show b ∈ ([] : List Addr) from z) (by simp)) (by simp)
      | some u =>
        obtain ⟨_, _, ob, xs, z⟩ := hO b (by rw [q]; simp)
        obtain ⟨e1, _⟩ := ok b _ z
        obtain ⟨e2, _⟩ := ok' b _ (un.frzs b ob _ z)
        rw [e] at e1
        cases e1
        exact e2

/-- what k_head leaves, from the promise of the law's def -/
theorem walkG {l : PySem.W.OpenLaw} {n k : Nat} {q : Program} {loose : List Str} {XP : (Str → Option Value) → Heap → Prop} {YP : World → Heap → Prop} {d : DefRec} {K : Params → PySem.W.Frag} {sp : World → Sp} {x : Str}
    (hn : l.most = some n) (hn2 : n ≤ sizeLine) (hdf : d.params.defaults = []) (hr : Room k callerA) (hY : ∀ (w : World) (h : Heap), YP w h → (K w.params).In h)
    (F : ∀ (w : World) (mg : Str → Option Value) (fa : Addr) (h : Heap), (K w.params).In h → h.Ns mainGlobals mg → mg d.name = some (.ref fa) →
      ∃ fd : FuncData, (∀ (s : Shared) (u : Value), BindsTo s fd ⟨[u], []⟩ [(x, u)]) ∧
        ∀ base : Heap, (K w.params).In base → base.Ns mainGlobals mg → FnG l.prog w (K w.params) mg base k fa fd [x] (sp w))
    (hsp : ∀ (w : World) (H : Hp) (a : Addr) (ns : List Int), ns.length ≤ n → SqL (K w.params) H a (ns.map V.int) → sp w [.ref a] H (fun v _ => v = .bl true) E0) :
    PySem.W.WalkO q loose XP YP l.row.toRowW d [] (fun f vs => PySem.call f vs) := by
  refine Att.attach_call hn hdf ?_
  intro w s₀ s₁ mg mb fa o pm cd doc a vs ns G Y ho hd hcd hmg hobj hints hlen hg
  have kX := hY w _ Y
  obtain ⟨fd, hb, hF⟩ := F w mg fa _ kX G.T.g hmg
  exact law_end kX G.T.g G.T.b G.T.builtins G.T.nolimit hg hobj hints (Nat.le_trans hlen hn2) hr hF hb fun H hS => hsp w H a ns hlen hS
end NB

set_option Elab.async false
set_option linter.all false
set_option maxRecDepth 100000
set_option maxHeartbeats 1000000
namespace NB
open PySem PySem.Spec PyProof.Rows L2
section
variable {prog : Program} {w : World} {A : Around} {E : Value → Shared → Prop} {s : Shared}
theorem sortedTuple {t : Addr} {vs : List Value} {ns : List Int} {Q : Value → Shared → Prop} (hl : s.heap.IsTuple t vs.toArray) (hI : IntsAre vs ns) (h64 : vs.length < 64)
    (h : ∀ (h1 h' : Heap) (p : Addr) (out : Array Value) (ep : Nat) (ns' : List Int), IntsAre out.toList ns' → ns'.Perm ns → ns'.Pairwise (· ≤ ·) → (∀ b o, s.heap.get? b = some o → h1.get? b = some o) → (∀ b o, h1.get? b = some o → h'.get? b = some o) → h1.objs.size ≤ p →
      h'.get? p = some (seqObj "list" out ep) → Q (.ref p) { s with heap := h' }) :
    wpAny (model prog w) A (call (.builtin "sorted") [.ref t]) Q E s := by
  obtain ⟨o, ho, hc, n, hd⟩ := hl
  refine Calls.call_function_entry kind_sorted plain_sorted entry_sorted (args_sorted1 _) ?_
  unfold Builtin.«sorted»
  refine wpAny_bind (m := checkCount "sorted" 1 1 _) (wpAny_pure ?_)
  refine wpAny_bind (wpAny_collect_seq t (.inr rfl) ho hc hd (fun h1 hk => ?_) (by rw [List.size_toArray, sizeLine_eq]; omega))
  refine wpAny_bind (wpAny_newList ?_)
  have e0 : (vs.toArray.toList) = vs := rfl
  have hoL : (h1.push (seqObj "list" vs.toArray 0)).get? h1.objs.size = some (seqObj "list" vs.toArray 0) := Heap.get?_push_size _ rfl
  show wpAny _ _ _ _ _ { s with heap := h1.push (seqObj "list" vs.toArray 0) }
  refine wpAny_bind (wpAny_holding (wpAny_call_entry slot_list_sort ⟨_, hoL, rfl⟩ entry_list_sort (list_sort_tree hoL hI h64 fun out ns' q1 q2 q3 => ⟨_, rfl, ?_⟩) (args_list_sort _)))
  refine wpAny_pure ⟨_, rfl, ?_⟩
  obtain ⟨ep, hat⟩ := sortedHeap_at (vs := vs) (out := out) hoL
  refine h h1 _ h1.objs.size out ep ns' q1 q2 q3 hk (fun b o q => ?_) (Nat.le_refl _) hat
  have lt := Heap.lt_size q
  rw [sortedHeap_old (Nat.ne_of_lt lt) (by rw [size_push']; exact Nat.lt_succ_of_lt lt)]
  exact Heap.get?_push_of_some _ q
end
section
variable {X : Cx}
/-- sorted(t), t a tuple of few ints -/
def rSortT (K : PySem.W.Frag) : List V → Hp → VK → Prop := fun vs H Q => ∃ (a : Addr) (ns : List Int), vs = [V.ref a] ∧ SqT K H a (ns.map V.int) ∧ ns.length < 64 ∧
  ∀ (ns' : List Int) (p : Addr), ns'.Perm ns → ns'.Pairwise (· ≤ ·) → H p = none → Q (.ref p) (upd H p (.lst (ns'.map V.int)))
theorem cr_sortT : CallR X (.builtin "sorted") (rSortT X.K) := by
  intro pins s σ H vs us Q I r h
  obtain ⟨a, ns, rfl, hs, h64, q⟩ := h
  obtain ⟨its, rv, hl, _⟩ := I.tuple hs
  rw [Vals.ref1 r]
  have hi := rv.ints
  refine sortedTuple hl hi (by rw [hi.length]; exact h64) fun h1 h' p out ep ns' q1 q2 q3 k1 k2 hp hat => ?_
  have I1 : Inv X pins σ H { s with heap := h1 } := I.kept (t' := s.toks) k1
  have hlen : (ns'.map V.int).length ≤ sizeLine := by rw [List.length_map, q2.length_eq]; exact small64 h64
  exact ⟨.ref p, upd H p (.lst (ns'.map V.int)), I1.laid (t' := s.toks) k2 hp ⟨hlen, out.toList, ep, vals_of_ints q1, hat⟩, rfl, q ns' p q2 q3 (I1.hok.fresh hp)⟩

theorem perm_sum {l l' : List Int} (h : l.Perm l') : l.sum = l'.sum := by
  induction h with
  | nil => rfl
  | cons x _ ih => simp only [List.sum_cons, ih]
  | swap x y l => simp only [List.sum_cons]; omega
  | trans _ _ i1 i2 => exact i1.trans i2
/-- the middle one of three -/
def mid3 (a b c : Int) : Int := if a ≤ b then (if b ≤ c then b else if a ≤ c then c else a) else (if a ≤ c then a else if b ≤ c then c else b)
theorem mid_of_sorted {a b c x y z : Int} (p : [x, y, z].Perm [a, b, c]) (s : [x, y, z].Pairwise (· ≤ ·)) : y = mid3 a b c := by
  have h1 : x ≤ y ∧ y ≤ z := by
    rw [List.pairwise_cons, List.pairwise_cons] at s
    exact ⟨s.1 y (by simp), s.2.1 z (by simp)⟩
  have ha : a ∈ [x, y, z] := p.symm.subset (by simp)
  have hb : b ∈ [x, y, z] := p.symm.subset (by simp)
  have hc : c ∈ [x, y, z] := p.symm.subset (by simp)
  have hs : x + y + z = a + b + c := by
    have e := perm_sum p
    simp only [List.sum_cons, List.sum_nil] at e
    omega
  simp only [List.mem_cons, List.not_mem_nil, or_false] at ha hb hc
  unfold mid3
  rcases ha with e | e | e <;> rcases hb with f | f | f <;> rcases hc with g | g | g <;> split <;> split <;> (try split) <;> omega
theorem max3 (hc : X.calm = true) : CallR X (.builtin "max") (fun xs H Q => ∃ i j k : Int, xs = [.int i, .int j, .int k] ∧ Q (.int (max (max i j) k)) H) := by
  intro pins s σ H xs us Q I r h
  obtain ⟨i, j, k, rfl, q⟩ := h
  refine call_max3Nu hc pins s σ H _ us Q I r ⟨_, _, _, _, rfl, ?_, q⟩
  have two : ∀ a b : Int, nuMax2 (.int a) (.int b) = some (.int (max a b)) := fun a b => by
    show some (if decide (a < b) = true then V.int b else V.int a) = _
    by_cases h : a < b
    · rw [if_pos (decide_eq_true h), Int.max_eq_right (Int.le_of_lt h)]
    · rw [if_neg (by simpa using h), Int.max_eq_left (by omega)]
  show (nuMax2 (.int i) (.int j)).bind (fun m => nuMax2 m (.int k)) = _
  rw [two]
  exact two _ _
theorem min3 (hc : X.calm = true) : CallR X (.builtin "min") (fun xs H Q => ∃ i j k : Int, xs = [.int i, .int j, .int k] ∧ Q (.int (min (min i j) k)) H) := by
  intro pins s σ H xs us Q I r h
  obtain ⟨i, j, k, rfl, q⟩ := h
  refine call_min3Nu hc pins s σ H _ us Q I r ⟨_, _, _, _, rfl, ?_, q⟩
  have two : ∀ a b : Int, nuMin2 (.int a) (.int b) = some (.int (min a b)) := fun a b => by
    show some (if decide (b < a) = true then V.int b else V.int a) = _
    by_cases h : b < a
    · rw [if_pos (decide_eq_true h), Int.min_eq_right (Int.le_of_lt h)]
    · rw [if_neg (by simpa using h), Int.min_eq_left (by omega)]
  show (nuMin2 (.int i) (.int j)).bind (fun m => nuMin2 m (.int k)) = _
  rw [two]
  exact two _ _
/-- a ** b: the result within 2 ^ 27 bits -/
def CPowW (i j : Int) : Prop := 0 ≤ j ∧ (Builtin.Int.intBits i : Int) * j ≤ 2 ^ 27
theorem op_powW : OpR X (binaryOp .Pow) (rI CPowW fun i j => .int (i ^ j.toNat)) := opI fun _ _ _ _ _ _ _ hc q => pow_int hc.1 hc.2 q
end
end NB

set_option Elab.async false
set_option linter.all false
set_option maxRecDepth 100000
set_option maxHeartbeats 1000000
/-! enumerate of a tuple -/
namespace NB
open PySem PySem.Spec PyProof.Rows L2

theorem enumNewT (l : Addr) (items : Array Value) : Meets (Builtin.«enumerate.__new__» ⟨[.type "enumerate", .ref l], []⟩) (fun _ R s => s.heap.IsTuple l items ∧
      R (.ok (.ret (.ref (s.heap.push { cls := .type "tuple_iterator", data := .fields #[.ref l, .int 0 0] }).objs.size)))
        { s with heap := (s.heap.push { cls := .type "tuple_iterator", data := .fields #[.ref l, .int 0 0] }).push { cls := .type "enumerate", data := .fields #[.none, .bool false, .ref s.heap.objs.size, rawInt 0, .none, .none] } }) :=
  .of_wp fun prog w A R s h => by
    obtain ⟨hp, g, d, tk, os⟩ := s
    obtain ⟨hl, h⟩ := h
    have hsub := sub_enumerate
    have hL : Heap.IsTuple (Shared.heap ⟨hp, g, d, tk, os⟩) l items := hl
    wp_walk
    refine wpAny_stack_any fun st => wpAny_pure ?_
    split
    · rename_i c _ _ _ _ _
      cases (c == Value.type "enumerate")
      · wp_walk using wpAny_pyIter_tuple hL
        exact ⟨_, rfl, h⟩
      · wp_walk using wpAny_pyIter_tuple hL
        exact ⟨_, rfl, h⟩
    · wp_walk using wpAny_pyIter_tuple hL
      exact ⟨_, rfl, h⟩
section
variable {prog : Program} {w : World} {A : Around} {E : Value → Shared → Prop} {s : Shared}
theorem enumT {l : Addr} {items : Array Value} {Q : Value → Shared → Prop} (hL : s.heap.IsTuple l items)
    (h : ∀ h', IsEnum h' (s.heap.objs.size + 1) s.heap.objs.size 0 .none → h'.IsTupleIter s.heap.objs.size l 0 → (∀ b o, s.heap.get? b = some o → h'.get? b = some o) → Q (.ref (s.heap.objs.size + 1)) { s with heap := h' }) :
    wpAny (model prog w) A (call (.type "enumerate") [.ref l]) Q E s := by
  refine callType_new F.called_enumerate (by decide) (F.typeCall_enumerate_1 _) (F.newCall_enumerate_1 _) (fun obj => F.args_object_init_2 obj _) F.entry_enumerate_new (enumNewT l items) ⟨hL, ?_⟩
  have z : (s.heap.push { cls := .type "tuple_iterator", data := .fields #[.ref l, .int 0 0] }).objs.size = s.heap.objs.size + 1 := Heap.size_push ..
  have he := Heap.get?_push_size (s.heap.push { cls := .type "tuple_iterator", data := .fields #[.ref l, .int 0 0] }) (o := { cls := .type "enumerate", data := .fields #[.none, .bool false, .ref s.heap.objs.size, rawInt 0, .none, .none] }) rfl
  show _ ∧ _
  rw [z] at he ⊢
  exact ⟨⟨_, he, rfl⟩, h _ he ⟨_, Heap.get?_push_of_some _ (Heap.get?_push_size _ rfl), rfl, rfl⟩ fun b o x => Heap.get?_push_of_some _ (Heap.get?_push_of_some _ x)⟩
end
/-- a tuple's items with their numbers, in new pairs -/
def ItE (K : PySem.W.Frag) (a : Addr) : It :=
  ⟨fun i H => ∃ (xs : List V) (x : V), SqT K H a xs ∧ xs[i]? = some x,
    fun i H v H' => ∃ T x, v = .ref T ∧ H T = none ∧ H' = upd H T (.tup [.int (i : Nat), x]) ∧ ∀ xs, SqT K H a xs → xs[i]? = some x,
    fun i H => ∃ xs : List V, SqT K H a xs ∧ xs.length = i⟩
theorem turnE {P : Program} {w : World} {K : PySem.W.Frag} {elts : List Expr} {kk : Nat} {tpos : Pos} (a e it : Addr) (n1 : e ≠ it) (n2 : a ≠ it) (n3 : e ≠ a) :
    Turn P w K (.Tuple elts kk tpos) (ItE K a) [e, it] e (fun i h => (∃ old, IsEnum h e it ((i : Nat) : Int) old) ∧ h.IsTupleIter it a i) where
  mem := by simp
  obj := fun i h st b hb => by
    obtain ⟨⟨old, he⟩, ⟨o, ho, hc, hd⟩⟩ := st
    have e' : b = e ∨ b = it := by simpa using hb
    rcases e' with z | z
    · rw [z]; exact ⟨_, he, fun v q => nomatch q⟩
    · rw [z]; exact ⟨o, ho, fun v q => by rw [hd] at q; cases q⟩
  keep := fun i h h' st k => by
    obtain ⟨⟨old, he⟩, hi⟩ := st
    exact ⟨⟨old, k e (by simp) _ he⟩, hi.at fun o q => k it (by simp) o q⟩
  item := by
    intro X hP hw hK hc i pins s σ H E I hf st hg
    subst hP hw hK
    obtain ⟨⟨old, he⟩, hit⟩ := st
    obtain ⟨xs, x, hq, hx⟩ := hg
    obtain ⟨its, rv, p, hz⟩ := I.tuple hq
    obtain ⟨u, hu, ru⟩ := rv.get hx
    have hel : e < s.heap.objs.size := Heap.lt_size he
    have hil : it < s.heap.objs.size := by obtain ⟨_, q, _⟩ := hit; exact Heap.lt_size q
    have lt : i < its.toArray.size := by
      have : i < its.length := by
        rcases Nat.lt_or_ge i its.length with q | q
        · exact q
        · rw [List.getElem?_eq_none q] at hu
          cases hu
      simpa using this
    have hD := I.ok.hd hc
    refine wpAny_pyNext_enum_itemD (Draws.tuple (A := X.A.in1) hD it a n2 its.toArray) he ⟨hit, p⟩ lt n1 (by simp; exact ⟨n1, n3⟩) fun y h' tk hy ho st' hT hsz hk => ?_
    have ey : y = u := by
      have q : its.toArray[i]? = some u := by simpa using hu
      exact Option.some.inj (hy.symm.trans q)
    subst ey
    refine ⟨_, rfl, wpAny_letOwnedTupleGo_enum (s := { s with heap := h', toks := tk + 1 }) ho fun h'' he' sb => ?_⟩
    have hT2 : h''.get? s.heap.objs.size = some { cls := .type "tuple", data := .seq #[.int i tk, y] } := (sb.2 _ (Nat.ne_of_gt hel)).trans hT
    have new : ObjOk X.prog X.w (upd H s.heap.objs.size (.tup [.int (i : Nat), x])) h'' s.heap.objs.size (.tup [.int (i : Nat), x]) :=
      ⟨by show 2 ≤ sizeLine; decide, [.int i tk, y], .cons ⟨_, rfl⟩ (.cons ru .nil), ⟨_, hT2, rfl, _, rfl⟩⟩
    have I1 : Inv X pins σ (upd H s.heap.objs.size (.tup [.int (i : Nat), x])) { s with heap := h'', toks := tk + 1 } :=
      I.turnedNew (ch := [e, it]) (fun b ob hb q => (sb.2 b (fun z => hb (by simp [z]))).trans (hk b ob (fun z => hb (by simp [z])) (fun z => hb (by simp [z])) q)) hf (Nat.le_refl _) new
    refine ⟨.ref s.heap.objs.size, _, I1, rfl, ⟨_, x, rfl, I.hok.fresh (Nat.le_refl _), rfl, fun ys hy => by rw [I.tuple_inj hy hq]; exact hx⟩, ⟨⟨y, ?_⟩, st'.1.at fun o q => (sb.2 it n1.symm).trans q⟩, fun b hb => ?_⟩
    · rw [show ((i + 1 : Nat) : Int) = (i : Int) + 1 by omega]
      exact he'
    · have hb' : b < s.heap.objs.size := by
        have e' : b = e ∨ b = it := by simpa using hb
        rcases e' with z | z
        · rw [z]; exact hel
        · rw [z]; exact hil
      rw [upd_ne (Nat.ne_of_lt hb')]
      exact (hf b hb).1
  done := by
    intro X hP hw hK hc i pins s σ H E I hf st hg
    subst hP hw hK
    obtain ⟨⟨old, he⟩, hit⟩ := st
    obtain ⟨xs, hq, hx⟩ := hg
    obtain ⟨its, rv, p, hz⟩ := I.tuple hq
    obtain ⟨f0, f1, f2, f3, f4, f5⟩ := hf it (by simp)
    have le : i = its.toArray.size := by
      have := rv.length
      simp
      omega
    subst le
    exact wpAny_pyNext_enum_endD (Draws.tuple (A := X.A.in1) (I.ok.hd hc) it a n2 its.toArray) he ⟨hit, p⟩ fun h' eb => ⟨rfl, I.turned (t' := s.toks) (fun b o hb q => eb b o hb q) f0 f1 f3 f4 f5⟩
  self := fun A i s Q E st h => by
    obtain ⟨⟨_, he⟩, _⟩ := st
    exact wpAny_pyIter_enum he h
def iEnumT (K : PySem.W.Frag) (ta : TA) : TI := fun σ H R => ta σ H fun vs H1 => ∃ a xs, vs = [.ref a] ∧ SqT K H1 a xs ∧ R (ItE K a) H1
theorem pi_enumT {X : Cx} {e : Expr} {ta : TA} {p pos tpos : Pos} {elts : List Expr} {kk : Nat} (hg : Gl X "enumerate") (hm : X.mg "enumerate" = none) (ha : PA X [e] ta) (hs : starEach [e] X.env = [(false, eval e X.env)] := by rfl) :
    PI X (.Tuple elts kk tpos) (.Call (.Name "enumerate" p) [e] [] pos) (iEnumT X.K ta) := by
  refine ⟨fun pins s σ H R I h => ?_⟩
  refine Call_ (ld_blt I hg hm boot_enumerate (PyProof.Rows.callWith_type1 (thn (ha.run pos pins s σ H _ I h) ?_) hs rfl))
  rintro us s1 ⟨vs, H1, I1, r1, a, xs, ex, hq, q⟩
  subst ex
  cases r1 with
  | cons r rr =>
    cases rr
    cases r
    obtain ⟨its, rv, p', hz⟩ := I1.tuple hq
    obtain ⟨o, g, _⟩ := id p'
    have la : a < s1.heap.objs.size := Heap.lt_size g
    refine enumT (items := its.toArray) p' fun h' he hit hk => wpAny_pyIter_enum he ?_
    have I2 : Inv X pins σ H1 { s1 with heap := h' } := I1.kept (t' := s1.toks) hk
    refine ⟨s1.heap.objs.size + 1, [s1.heap.objs.size + 1, s1.heap.objs.size], _, _, H1, rfl, I2, turnE a (s1.heap.objs.size + 1) s1.heap.objs.size (Nat.succ_ne_self _) (Nat.ne_of_lt la) (Nat.ne_of_gt (Nat.lt_succ_of_lt la)), ⟨⟨.none, he⟩, hit⟩, fun b hb => ?_, q⟩
    have e' : b = s1.heap.objs.size + 1 ∨ b = s1.heap.objs.size := by simpa using hb
    have hle : s1.heap.objs.size ≤ b := by
      rcases e' with z | z
      · rw [z]; exact Nat.le_add_right _ _
      · rw [z]; exact Nat.le_refl _
    exact I1.fpOk hle (I1.hok.fresh hle)
theorem walk_enumT {K : PySem.W.Frag} {a : Addr} {xs : List V} : Walk (ItE K a) xs.length (fun H => SqT K H a xs) (YPair (fun i => some (.int (i : Nat))) (fun i => xs[i]?)) := by
  refine ⟨fun i _ hi q => ⟨xs, xs[i], q, by simp [hi]⟩, fun _ q => ⟨xs, q, rfl⟩, fun i H v H' _ q y => ?_⟩
  obtain ⟨T, x, h1, h2, h3, h4⟩ := y
  exact ⟨T, .int (i : Nat), x, h1, h2, h3, rfl, h4 xs q⟩
end NB

set_option Elab.async false
set_option linter.all false
set_option maxRecDepth 100000
/-! t[::-1] of a tuple; repr of a truth. -/
namespace NB
open PySem PySem.Spec PyProof.Rows L2 HT

section
variable {prog : Program} {w : World} {A : Around} {E : Value → Shared → Prop} {s : Shared}
theorem adjust_back (n : Nat) : Builtin.Slice.sliceAdjust none none (-1) (n : Int) = ((n : Int) - 1, -1) := by
  unfold Builtin.Slice.sliceAdjust
  first
  | rfl
  | simp
theorem places_back (n : Nat) : Builtin.Slice.slicePlaces ((n : Int) - 1) (-1) (-1) = n := by
  unfold Builtin.Slice.slicePlaces
  have h1 : ¬ ((-1 : Int) > 0) := by decide
  simp only [h1, if_false]
  split <;> simp <;> omega
theorem sliceBack {sl : Addr} {vl vu vk : Value} {n : Nat} {Q : Int × Int × Nat → Shared → Prop} (hs : s.heap.IsSliceOf sl vl vu vk) (pl : IsPart vl none) (pu : IsPart vu none) (pk : IsPart vk (some (-1)))
    (h : Q ((n : Int) - 1, -1, n) s) : wpAny (model prog w) A (Builtin.Slice.sliceApplied (.ref sl) (pure (n : Int))) Q E s := by
  obtain ⟨os, hos, hcs, hds⟩ := id hs
  unfold Builtin.Slice.sliceApplied Builtin.Slice.sliceFields
  refine wpAny_bind (wpAny_bind (wpAny_field hos hds (x := vl) rfl (wpAny_bind (wpAny_field hos hds (x := vu) rfl (wpAny_bind (wpAny_field hos hds (x := vk) rfl (wpAny_pure ?_)))))))
  refine wpAny_bind (slicePart_ pk ?_)
  show wpAny _ _ (if ((-1 : Int) == 0) = true then _ else _) _ _ s
  rw [if_neg (by decide)]
  refine wpAny_bind (slicePart_ pl (wpAny_bind (slicePart_ pu (wpAny_bind (wpAny_pure ?_)))))
  show wpAny _ _ (match Builtin.Slice.sliceAdjust none none (-1) (n : Int) with | (lo, hi) => pure (lo, (-1 : Int), Builtin.Slice.slicePlaces lo hi (-1))) _ _ s
  rw [adjust_back n]
  show wpAny _ _ (pure ((n : Int) - 1, (-1 : Int), Builtin.Slice.slicePlaces ((n : Int) - 1) (-1) (-1))) _ _ s
  rw [places_back]
  exact wpAny_pure h
theorem pick_back (xs : Array Value) : ((List.range xs.size).filterMap fun (m : Nat) => xs[(((xs.size : Int) - 1) + (m : Int) * -1).toNat]?).toArray = xs.toList.reverse.toArray := by
  have e : ((List.range xs.size).filterMap fun (m : Nat) => xs[(((xs.size : Int) - 1) + (m : Int) * -1).toNat]?) = ((List.range xs.size).map fun k => xs.size - 1 - k).filterMap (xs[·]?) := by
    rw [List.filterMap_map]
    congr 1
    funext m
    have : (((xs.size : Int) - 1) + (m : Int) * -1).toNat = xs.size - 1 - m := by omega
    rw [this]
    rfl
  rw [e, PySem.W.krv_range, List.filterMap_reverse, PySem.W.krv_all]
theorem getItem_tuple_back {t sl : Addr} {items : Array Value} {vl vu vk : Value} {Q : Value → Shared → Prop} (ht : IsTup s.heap t items) (hs : s.heap.IsSliceOf sl vl vu vk) (pl : IsPart vl none) (pu : IsPart vu none) (pk : IsPart vk (some (-1)))
    (h : Q (.ref s.heap.objs.size) { s with heap := s.heap.push { cls := .type "tuple", data := .seq items.toList.reverse.toArray } })
    (hsz : items.size ≤ sizeLine) : wpAny (model prog w) A (getItem (.ref t) (.ref sl)) Q E s := by
  have htake : sizeOk (.seq items.toList.reverse.toArray) := by
    show items.toList.reverse.toArray.size ≤ sizeLine
    rw [List.size_toArray, List.length_reverse, Array.length_toList]
    exact hsz
  obtain ⟨os, hos, hcs, hds⟩ := id hs
  have hTs : s.TypeIs (.ref sl) "slice" := ⟨os, hos, hcs⟩
  unfold getItem
  try with_reducible refine wpAny_holding ?_
  first | refine wpAny_bind (wpAny_pure ?_) | skip
  refine wpAny_bind (wpAny_sequenceKey ht.typeIs (by decide) ?_)
  refine wpAny_bind (wpAny_callSpecial?_slot (name := Str.ofString "__getitem__") ht.typeIs PyProof.Rows.slot_tuple_getitem
    (wpAny_call_entry PyProof.Rows.slot_tuple_getitem ht.typeIs entry_tuple_getitem ?_ (args_tuple_getitem _ _)))
  show wpAny _ _ (Builtin.Tuple.tupleItemsOf (.ref t) >>= _) _ _ s
  refine wpAny_bind (tupleItemsOf_ ht ?_)
  refine wpAny_bind (wpAny_typeOf hTs ?_)
  rw [if_pos (by decide)]
  refine wpAny_bind (sliceBack hs pl pu pk ?_)
  have hno : ¬ ((((items.size : Int) - 1) == 0 && (-1 : Int) == 1 && items.size == items.size) = true) := by
    intro q
    rw [Bool.and_eq_true, Bool.and_eq_true] at q
    exact absurd q.1.2 (by decide)
  show wpAny _ _ (if (((items.size : Int) - 1) == 0 && (-1 : Int) == 1 && items.size == items.size) = true then _ else _) _ _ s
  rw [if_neg hno, pick_back]
  first
    | exact wpAny_bind (m := Builtin.Tuple.tupleExact _) (wpAny_newObj_type (wpAny_pure ⟨_, rfl, wpAny_pure h⟩) htake)
    | exact wpAny_bind (m := Builtin.Tuple.tupleExact _) (wpAny_newObj_type (wpAny_bind (wpAny_pure (wpAny_pure ⟨_, rfl, wpAny_pure h⟩))) htake)
    | exact wpAny_bind (wpAny_bind (m := Builtin.Tuple.tupleExact _) (wpAny_newObj_type (wpAny_pure (wpAny_pure ⟨_, rfl, wpAny_pure h⟩)) htake))
    | exact wpAny_bind (wpAny_bind (m := Builtin.Tuple.tupleExact _) (wpAny_newObj_type (wpAny_pure ⟨_, rfl, wpAny_pure h⟩) htake))
end

section
variable {X : Cx}
def tRevT (K : PySem.W.Frag) (te : TE) : TE := fun σ H Q => te σ H fun x H1 => ∃ a xs, x = .ref a ∧ SqT K H1 a xs ∧ ∀ p, H1 p = none → Q (.ref p) (upd H1 p (.tup xs.reverse))
theorem pe_revT {e : Expr} {te : TE} {k : Nat} {p1 p2 p3 pos : Pos} (he : PE X e te) : PE X (.Subscript e (.Slice none none (some (.UnaryOp .USub (.Constant (.int 1) k p1) p2)) p3) pos) (tRevT X.K te) := by
  refine ⟨fun pins s σ H Q I h => ?_⟩
  refine Subscript_ (thn (he.run pins s σ H _ I h) fun v s1 ⟨x, H1, I1, r1, q1⟩ => ?_)
  obtain ⟨a, xs, ex, hx, q⟩ := q1
  subst ex
  cases r1
  have hst : PO X (some (.UnaryOp .USub (.Constant (.int 1) k p1) p2)) (tPart (tUn (rU fun i => .int (-i)) (tC (.int 1)))) := po_some (pe_un un_neg pe_int)
  refine wpAny_Slice (thn (po_none.run pins s1 σ H1 (fun o H2 => o = none ∧ H2 = H1) I1 ⟨rfl, rfl⟩) fun vl s2 ⟨l, H2, I2, pl, el, e2⟩ => ?_)
  subst el e2
  refine thn (po_none.run pins s2 σ H2 (fun o H3 => o = none ∧ H3 = H2) I2 ⟨rfl, rfl⟩) fun vu s3 ⟨u, H3, I3, pu, eu, e3⟩ => ?_
  subst eu e3
  refine thn (hst.run pins s3 σ H3 (fun o H4 => o = some (-1) ∧ H4 = H3) I3 ⟨1, rfl, -1, rfl, rfl, rfl⟩) fun vs s4 ⟨o, H4, I4, ps, eo, e4⟩ => ?_
  subst eo e4
  have I5 : Inv X pins σ H4 { s4 with heap := s4.heap.push { cls := .type "slice", data := .fields #[vl, vu, vs] } } := I4.kept (t' := s4.toks) fun b ob q => Heap.get?_push_of_some _ q
  obtain ⟨its, r, ht, hz⟩ := I5.tuple hx
  have hlen := r.length
  show wpAny (model X.prog X.w) X.A (subscriptTail e (.Slice none none (some (.UnaryOp .USub (.Constant (.int 1) k p1) p2)) p3) (.ref a) (.ref s4.heap.objs.size)) (EP X pins σ Q) X.xe { s4 with heap := s4.heap.push { cls := .type "slice", data := .fields #[vl, vu, vs] } }
  refine tail_any (ops := [.ref a, .ref s4.heap.objs.size]) ht.typeIs (PyProof.Rows.slot_tuple_getitem.lookup) ?_ (by with_unfolding_all rfl)
  refine getItem_tuple_back ht (Heap.IsSliceOf.new _ vl vu vs) pl pu ps ?_ (by rw [List.size_toArray]; omega)
  refine ⟨.ref _, _, I5.laid (t' := s4.toks) (o := .tup xs.reverse) (fun b ob q => Heap.get?_push_of_some _ q) (Nat.le_refl _) ?_, rfl, q _ (I5.hok.fresh (Nat.le_refl _))⟩
  exact ⟨by rw [List.length_reverse]; exact hz, _, r.reverse, IsTup.new _ _⟩

/-- how a truth is written -/
def shB (b : Bool) : Str := if b then "True" else "False"
/-- repr(b), b a truth -/
theorem call_reprB : CallR X (.builtin "repr") (fun xs H Q => ∃ b, xs = [.bl b] ∧ Q (.str (shB b)) H) := by
  intro pins s σ H xs us Q I r h
  obtain ⟨b, rfl, q⟩ := h
  obtain ⟨u, rfl, r1⟩ := vals1 r
  cases r1
  exact P.repr_of_bool ⟨.str (shB b), H, I.tok _, ⟨_, rfl⟩, q⟩
end
end NB

set_option Elab.async false
set_option linter.all false
set_option maxRecDepth 100000
namespace NB
open PySem PySem.Spec PyProof.Rows L2
/-- data that repr writes: at most w by weight, nested at most n deep -/
structure Small (d : PyData) (w n : Nat) : Prop where
  sh : d.showable = true
  nd : d.hasDict = false
  dp : d.depth ≤ n
  lv : d.leavesShort 100 = true
  wt : d.weight ≤ w
structure SmallAll (ds : List PyData) (w n : Nat) : Prop where
  sh : PyData.showableAll ds = true
  nd : PyData.hasDictAll ds = false
  dp : PyData.depthAll ds ≤ n
  lv : PyData.leavesShortAll 100 ds = true
  wt : PyData.weightAll ds ≤ w
theorem Small.int {i : Int} (h : i.natAbs < 10 ^ 90) : Small (.int i) 310 0 := by
  have lg : i.natAbs.log2 < 300 := by
    have h2 : i.natAbs < 2 ^ 300 := Nat.lt_of_lt_of_le h (by decide)
    by_cases e : i.natAbs = 0
    · rw [e]; decide
    · exact (Nat.log2_lt e).mpr h2
  refine ⟨?_, rfl, Nat.le_refl _, ?_, ?_⟩
  · simp only [PyData.showable, decide_eq_true_eq]
    omega
  · simp only [PyData.leavesShort, decide_eq_true_eq]
    have e := int_text_length_le10 (k := 90) (by decide) h
    show (Str.ofString (toString i)).length ≤ 100
    rw [PySem.ofString_length]
    omega
  · show (if i == 0 then 0 else i.natAbs.log2 + 1) ≤ 310
    split <;> omega
theorem Small.bool (b : Bool) : Small (.bool b) 0 0 := ⟨rfl, rfl, Nat.le_refl _, rfl, Nat.le_refl _⟩
theorem Small.none : Small .none 0 0 := ⟨rfl, rfl, Nat.le_refl _, rfl, Nat.le_refl _⟩
theorem SmallAll.nil : SmallAll [] 0 0 := ⟨rfl, rfl, Nat.le_refl _, rfl, Nat.le_refl _⟩
theorem SmallAll.cons {d : PyData} {ds : List PyData} {w v n m : Nat} (h : Small d w n) (h' : SmallAll ds v m) : SmallAll (d :: ds) (w + 1 + v) (max n m) := by
  obtain ⟨a1, a2, a3, a4, a5⟩ := h
  obtain ⟨b1, b2, b3, b4, b5⟩ := h'
  refine ⟨?_, ?_, ?_, ?_, ?_⟩
  · simp only [PyData.showableAll, a1, b1, Bool.and_self]
  · simp only [PyData.hasDictAll, a2, b2, Bool.or_self]
  · simp only [PyData.depthAll]
    omega
  · simp only [PyData.leavesShortAll, a4, b4, Bool.and_self]
  · simp only [PyData.weightAll]
    omega
theorem Small.list {ds : List PyData} {w n : Nat} (h : SmallAll ds w n) : Small (.list ds) w (n + 1) := by
  obtain ⟨a1, a2, a3, a4, a5⟩ := h
  refine ⟨?_, ?_, ?_, ?_, ?_⟩
  · simpa only [PyData.showable] using a1
  · simpa only [PyData.hasDict] using a2
  · simp only [PyData.depth]
    omega
  · simpa only [PyData.leavesShort] using a4
  · simpa only [PyData.weight] using a5
theorem Small.tuple {ds : List PyData} {w n : Nat} (h : SmallAll ds w n) : Small (.tuple ds) w (n + 1) := by
  obtain ⟨a1, a2, a3, a4, a5⟩ := h
  refine ⟨?_, ?_, ?_, ?_, ?_⟩
  · simpa only [PyData.showable] using a1
  · simpa only [PyData.hasDict] using a2
  · simp only [PyData.depth]
    omega
  · simpa only [PyData.leavesShort] using a4
  · simpa only [PyData.weight] using a5
theorem SmallAll.ints : ∀ {xs : List Int}, (∀ x ∈ xs, x.natAbs < 10 ^ 90) → SmallAll (xs.map PyData.int) (311 * xs.length) 0
  | [], _ => .nil
  | x :: xs, h => by
    have c := SmallAll.cons (Small.int (h x List.mem_cons_self)) (SmallAll.ints fun y hy => h y (List.mem_cons_of_mem _ hy))
    refine ⟨c.sh, c.nd, c.dp, c.lv, Nat.le_trans c.wt ?_⟩
    rw [List.length_cons]
    omega
theorem Small.ok {d : PyData} {w n : Nat} (h : Small d w n) (hw : w ≤ 150000) (hn : n ≤ 60) : Showable d := by
  refine ⟨h.sh, h.nd, Nat.le_trans h.dp hn, ?_⟩
  have e := PyData.shown_le 100 (by decide) d h.lv
  have := h.wt
  rw [sizeLine_eq]
  have : (100 + 2) * d.weight ≤ (100 + 2) * 150000 := Nat.mul_le_mul_left _ (Nat.le_trans h.wt hw)
  omega
/-- what Dp reads of a tuple of ints -/
theorem dp_ints {K : PySem.W.Frag} {H : Hp} : ∀ xs : List Int, DpAll K H (xs.map V.int) (xs.map PyData.int)
  | [] => .nil
  | x :: xs => .cons (.int x) (dp_ints xs)
theorem dp_tup {K : PySem.W.Frag} {H : Hp} {p : Addr} {xs : List Int} (h : SqT K H p (xs.map V.int)) : Dp K H (.ref p) (.tuple (xs.map PyData.int)) := .tup h (dp_ints xs)
end NB

set_option Elab.async false
set_option linter.all false
set_option maxRecDepth 100000
set_option maxHeartbeats 1000000
/-! Data of any kind: None, truths, whole numbers, texts, lists, tuples, dicts. -/
namespace NB
open PySem PySem.Spec PyProof.Rows L2

def kD : Key → PyData
  | .inl i => .int i
  | .inr x => .str x
mutual
/-- the value v is the data d; its lists stand apart from n -/
inductive Da (n : Addr) (H : Hp) : V → PyData → Prop
  | non : Da n H .non .none
  | bl (b : Bool) : Da n H (.bl b) (.bool b)
  | int (i : Int) : Da n H (.int i) (.int i)
  | str (x : Str) : Da n H (.str x) (.str x)
  | lst {a : Addr} {xs : List V} {ds : List PyData} : H a = some (.lst xs) → a ≠ sysModules → a ≠ n → DaAll n H xs ds → Da n H (.ref a) (.list ds)
  | tup {a : Addr} {xs : List V} {ds : List PyData} : H a = some (.tup xs) → DaAll n H xs ds → Da n H (.ref a) (.tuple ds)
  | dct {a : Addr} {kvs : List (Key × V)} {ds : List (PyData × PyData)} : H a = some (.dK kvs) → DaKv n H kvs ds → Da n H (.ref a) (.dict ds)
inductive DaAll (n : Addr) (H : Hp) : List V → List PyData → Prop
  | nil : DaAll n H [] []
  | cons {v : V} {vs : List V} {d : PyData} {ds : List PyData} : Da n H v d → DaAll n H vs ds → DaAll n H (v :: vs) (d :: ds)
inductive DaKv (n : Addr) (H : Hp) : List (Key × V) → List (PyData × PyData) → Prop
  | nil : DaKv n H [] []
  | cons {k : Key} {v : V} {kvs : List (Key × V)} {d : PyData} {ds : List (PyData × PyData)} : Da n H v d → DaKv n H kvs ds → DaKv n H ((k, v) :: kvs) ((kD k, d) :: ds)
end
mutual
theorem Da.keep {n : Addr} {H H' : Hp} (hn : ∃ zs, H n = some (.lst zs)) (k : ∀ b o, b ≠ n → H b = some o → H' b = some o) : ∀ (d : PyData) (v : V), Da n H v d → Da n H' v d
  | .none, _, h => by cases h; exact .non
  | .bool b, _, h => by cases h; exact .bl b
  | .int i, _, h => by cases h; exact .int i
  | .str x, _, h => by cases h; exact .str x
  | .list ds, _, h => by
    cases h with
    | lst e n1 n2 ha => exact .lst (k _ _ n2 e) n1 n2 (DaAll.keep hn k ds _ ha)
  | .tuple ds, _, h => by
    cases h with
    | tup e ha =>
      refine .tup (k _ _ (fun z => ?_) e) (DaAll.keep hn k ds _ ha)
      obtain ⟨zs, q⟩ := hn
      rw [z, q] at e
      cases e
  | .dict ds, _, h => by
    cases h with
    | dct e ha =>
      refine .dct (k _ _ (fun z => ?_) e) (DaKv.keep hn k ds _ ha)
      obtain ⟨zs, q⟩ := hn
      rw [z, q] at e
      cases e
theorem DaAll.keep {n : Addr} {H H' : Hp} (hn : ∃ zs, H n = some (.lst zs)) (k : ∀ b o, b ≠ n → H b = some o → H' b = some o) : ∀ (ds : List PyData) (vs : List V), DaAll n H vs ds → DaAll n H' vs ds
  | [], _, h => by cases h; exact .nil
  | d :: ds, _, h => by
    cases h with
    | cons h1 h2 => exact .cons (Da.keep hn k d _ h1) (DaAll.keep hn k ds _ h2)
theorem DaKv.keep {n : Addr} {H H' : Hp} (hn : ∃ zs, H n = some (.lst zs)) (k : ∀ b o, b ≠ n → H b = some o → H' b = some o) : ∀ (ds : List (PyData × PyData)) (kvs : List (Key × V)), DaKv n H kvs ds → DaKv n H' kvs ds
  | [], _, h => by cases h; exact .nil
  | (_, d) :: ds, _, h => by
    cases h with
    | cons h1 h2 => exact .cons (Da.keep hn k d _ h1) (DaKv.keep hn k ds _ h2)
end
mutual
theorem Da.sameD {n : Addr} {H H' : Hp} (k : Same H H') : ∀ (d : PyData) (v : V), Da n H v d → Da n H' v d
  | .none, _, h => by cases h; exact .non
  | .bool b, _, h => by cases h; exact .bl b
  | .int i, _, h => by cases h; exact .int i
  | .str x, _, h => by cases h; exact .str x
  | .list ds, _, h => by
    cases h with
    | lst e n1 n2 ha => exact .lst (k _ _ e) n1 n2 (DaAll.sameD k ds _ ha)
  | .tuple ds, _, h => by
    cases h with
    | tup e ha => exact .tup (k _ _ e) (DaAll.sameD k ds _ ha)
  | .dict ds, _, h => by
    cases h with
    | dct e ha => exact .dct (k _ _ e) (DaKv.sameD k ds _ ha)
theorem DaAll.sameD {n : Addr} {H H' : Hp} (k : Same H H') : ∀ (ds : List PyData) (vs : List V), DaAll n H vs ds → DaAll n H' vs ds
  | [], _, h => by cases h; exact .nil
  | d :: ds, _, h => by
    cases h with
    | cons h1 h2 => exact .cons (Da.sameD k d _ h1) (DaAll.sameD k ds _ h2)
theorem DaKv.sameD {n : Addr} {H H' : Hp} (k : Same H H') : ∀ (ds : List (PyData × PyData)) (kvs : List (Key × V)), DaKv n H kvs ds → DaKv n H' kvs ds
  | [], _, h => by cases h; exact .nil
  | (_, d) :: ds, _, h => by
    cases h with
    | cons h1 h2 => exact .cons (Da.sameD k d _ h1) (DaKv.sameD k ds _ h2)
end
theorem Da.same {n : Addr} {H H' : Hp} {v : V} {d : PyData} (h : Da n H v d) (k : Same H H') : Da n H' v d := Da.sameD k d v h
theorem DaAll.same {n : Addr} {H H' : Hp} {vs : List V} {ds : List PyData} (h : DaAll n H vs ds) (k : Same H H') : DaAll n H' vs ds := DaAll.sameD k ds vs h
theorem DaAll.len {n : Addr} {H : Hp} {vs : List V} {ds : List PyData} (h : DaAll n H vs ds) : vs.length = ds.length := by
  induction ds generalizing vs with
  | nil => cases h; rfl
  | cons d ds ih =>
    cases h with
    | cons h1 h2 => rw [List.length_cons, List.length_cons, ih h2]
theorem DaAll.get {n : Addr} {H : Hp} {vs : List V} {ds : List PyData} (h : DaAll n H vs ds) (i : Nat) (v : V) (e : vs[i]? = some v) : ∃ d, ds[i]? = some d ∧ Da n H v d := by
  induction ds generalizing vs i with
  | nil => cases h; simp at e
  | cons d ds ih =>
    cases h with
    | cons h1 h2 =>
      cases i with
      | zero => exact ⟨d, rfl, by cases e; exact h1⟩
      | succ i => exact ih h2 i e
theorem DaAll.mem {n : Addr} {H : Hp} {vs : List V} {ds : List PyData} (h : DaAll n H vs ds) {v : V} (hv : v ∈ vs) : ∃ d ∈ ds, Da n H v d := by
  obtain ⟨i, hi, e⟩ := List.getElem_of_mem hv
  obtain ⟨d, e1, e2⟩ := h.get i v (by rw [List.getElem?_eq_getElem hi, e])
  exact ⟨d, List.mem_of_getElem? e1, e2⟩
theorem DaAll.app {n : Addr} {H : Hp} {vs us : List V} {ds es : List PyData} (h : DaAll n H vs ds) (h' : DaAll n H us es) : DaAll n H (vs ++ us) (ds ++ es) := by
  induction ds generalizing vs with
  | nil => cases h; exact h'
  | cons d ds ih =>
    cases h with
    | cons h1 h2 => exact .cons h1 (ih h2)
theorem DaAll.take {n : Addr} {H : Hp} {vs : List V} {ds : List PyData} (h : DaAll n H vs ds) (i : Nat) : DaAll n H (vs.take i) (ds.take i) := by
  induction ds generalizing vs i with
  | nil => cases h; simp only [List.take_nil]; exact .nil
  | cons d ds ih =>
    cases h with
    | cons h1 h2 =>
      cases i with
      | zero => simp only [List.take_zero]; exact .nil
      | succ i => simp only [List.take_succ_cons]; exact .cons h1 (ih h2 i)
theorem DaAll.drop {n : Addr} {H : Hp} {vs : List V} {ds : List PyData} (h : DaAll n H vs ds) (i : Nat) : DaAll n H (vs.drop i) (ds.drop i) := by
  induction ds generalizing vs i with
  | nil => cases h; simp only [List.drop_nil]; exact .nil
  | cons d ds ih =>
    cases h with
    | cons h1 h2 =>
      cases i with
      | zero => simp only [List.drop_zero]; exact .cons h1 h2
      | succ i => simp only [List.drop_succ_cons]; exact ih h2 i
theorem DaAll.ints {n : Addr} {H : Hp} : ∀ xs : List Int, DaAll n H (xs.map V.int) (xs.map PyData.int)
  | [] => .nil
  | x :: xs => .cons (.int x) (DaAll.ints xs)
/-- of which kind it is -/
def tyD : PyData → String
  | .none => "NoneType"
  | .bool _ => "bool"
  | .int _ => "int"
  | .str _ => "str"
  | .list _ => "list"
  | .tuple _ => "tuple"
  | .dict _ => "dict"
theorem Da.ty {K : PySem.W.Frag} {n : Addr} {H : Hp} {v : V} {d : PyData} (h : Da n H v d) : TyX K H v (.type (tyD d)) := by
  cases h with
  | non => exact .base .non
  | bl b => exact .base (.bl b)
  | int i => exact .base (.int i)
  | str x => exact .base (.str x)
  | lst e _ _ _ => exact .base (.lst e)
  | tup e _ => exact .base (.tup e)
  | dct e _ => exact .base (.dK e)
def isTupD : PyData → Bool
  | .tuple _ => true
  | _ => false
def isIntD : PyData → Bool
  | .int _ => true
  | .bool _ => true
  | _ => false
def isBoolD : PyData → Bool
  | .bool _ => true
  | _ => false
def isStrD : PyData → Bool
  | .str _ => true
  | _ => false
theorem kit_tup (d : PyData) : kitB (tyD d) "tuple" = some (isTupD d) := by cases d <;> (simp only [tyD, isTupD, isIntD, isBoolD, isStrD]; decide +kernel)
theorem kit_int (d : PyData) : kitB (tyD d) "int" = some (isIntD d) := by cases d <;> (simp only [tyD, isTupD, isIntD, isBoolD, isStrD]; decide +kernel)
theorem kit_bool (d : PyData) : kitB (tyD d) "bool" = some (isBoolD d) := by cases d <;> (simp only [tyD, isTupD, isIntD, isBoolD, isStrD]; decide +kernel)
theorem kit_str (d : PyData) : kitB (tyD d) "str" = some (isStrD d) := by cases d <;> (simp only [tyD, isTupD, isIntD, isBoolD, isStrD]; decide +kernel)
section
variable {X : Cx} {pins : List (Addr × Obj)} {σ : L2.St} {H : Hp} {s : Shared}
theorem key_reads {h : Heap} {k : Key} {u : Value} (e : keyIs k u = true) : Reads h u (kD k) [] := by
  rcases keyIs_shape e with ⟨i, t, rfl, rfl⟩ | ⟨x, t, rfl, rfl⟩
  · exact .int i t
  · exact .str x t
mutual
theorem Da.reads {n : Addr} (I : Inv X pins σ H s) : ∀ (d : PyData) (v : V) (u : Value), Da n H v d → RelV v u → ∃ as, Reads s.heap u d as ∧ sysModules ∉ as
  | .none, _, _, h, r => by
    cases h
    cases r
    exact ⟨_, Reads.none, List.not_mem_nil⟩
  | .bool b, _, _, h, r => by
    cases h
    cases r
    exact ⟨_, Reads.bool b, List.not_mem_nil⟩
  | .int i, _, _, h, r => by
    cases h
    obtain ⟨t, rfl⟩ := r
    exact ⟨_, Reads.int i t, List.not_mem_nil⟩
  | .str x, _, _, h, r => by
    cases h
    obtain ⟨t, rfl⟩ := r
    exact ⟨_, Reads.str x t, List.not_mem_nil⟩
  | .list ds, _, _, h, r => by
    cases h with
    | lst e n1 n2 ha =>
      cases r
      obtain ⟨its, rv, ⟨o, m, ho, hc, _, hd⟩, _⟩ := I.list (.inl (.inl e))
      obtain ⟨as, hr, hm⟩ := Da.readsAll I ds _ its ha rv
      refine ⟨_, Reads.list ho hc hd hr, fun z => ?_⟩
      rcases List.mem_cons.mp z with q | q
      · exact n1 q.symm
      · exact hm q
  | .tuple ds, _, _, h, r => by
    cases h with
    | tup e ha =>
      cases r
      obtain ⟨its, rv, ⟨o, ho, hc, m, hd⟩, _⟩ := I.tuple (.inl (.inl e))
      obtain ⟨as, hr, hm⟩ := Da.readsAll I ds _ its ha rv
      exact ⟨_, Reads.tuple ho hc hd hr, hm⟩
  | .dict ds, _, _, h, r => by
    cases h with
    | dct e ha =>
      rename_i a kvs
      cases r
      obtain ⟨_, hsys, vs, rel, o, es, ep, h1, h2, h3, _, pr, _⟩ := (show ObjOk X.prog X.w H s.heap a (.dK kvs) from I.hok a _ e)
      obtain ⟨as, bs, q1, m1, q2, m2⟩ := Da.readsKv I ds kvs vs es.toList ha rel pr
      refine ⟨_, Reads.dict h1 h2.1 h3 q1 q2, fun z => ?_⟩
      rw [List.cons_append] at z
      rcases List.mem_cons.mp z with q | q
      · exact beq_eq_false_iff_ne.mp hsys q.symm
      · rcases List.mem_append.mp q with q | q
        · exact m1 q
        · exact m2 q
theorem Da.readsAll {n : Addr} (I : Inv X pins σ H s) : ∀ (ds : List PyData) (vs : List V) (us : List Value), DaAll n H vs ds → Vals vs us → ∃ as, ReadsAll s.heap us ds as ∧ sysModules ∉ as
  | [], _, _, h, r => by
    cases h
    cases r
    exact ⟨_, ReadsAll.nil, List.not_mem_nil⟩
  | d :: ds, _, _, h, r => by
    cases h with
    | cons h1 h2 =>
      cases r with
      | cons r1 r2 =>
        obtain ⟨as, q1, m1⟩ := Da.reads I d _ _ h1 r1
        obtain ⟨bs, q2, m2⟩ := Da.readsAll I ds _ _ h2 r2
        refine ⟨_, ReadsAll.cons q1 q2, fun z => ?_⟩
        rcases List.mem_append.mp z with q | q
        · exact m1 q
        · exact m2 q
theorem Da.readsKv {n : Addr} (I : Inv X pins σ H s) : ∀ (ds : List (PyData × PyData)) (kvs : List (Key × V)) (vs : List (Key × Value)) (es : List DictEntry), DaKv n H kvs ds → KV kvs vs → Pairs (mixKind X.prog X.w) es vs →
    ∃ as bs, ReadsAll s.heap (es.map (·.key)) (ds.map (·.1)) as ∧ sysModules ∉ as ∧ ReadsAll s.heap (es.map (·.val)) (ds.map (·.2)) bs ∧ sysModules ∉ bs
  | [], _, _, _, h, r, p => by
    cases h
    cases r
    cases p
    exact ⟨_, _, ReadsAll.nil, List.not_mem_nil, ReadsAll.nil, List.not_mem_nil⟩
  | (_, d) :: ds, _, _, _, h, r, p => by
    cases h with
    | cons h1 h2 =>
      cases r with
      | cons r1 r2 =>
        cases p with
        | cons p1 p2 p3 =>
          obtain ⟨as, bs, q1, m1, q2, m2⟩ := Da.readsKv I ds _ _ _ h2 r2 p3
          obtain ⟨cs, q3, m3⟩ := Da.reads I d _ _ h1 r1.2
          refine ⟨_, _, ReadsAll.cons (key_reads (by have e := r1.1; simp only at e; show keyIs _ _ = true; rw [e]; exact p1)) q1, ?_, ReadsAll.cons (by show Reads s.heap (DictEntry.val _) d _; rw [p2]; exact q3) q2, fun z => ?_⟩
          · rw [List.nil_append]
            exact m1
          · rcases List.mem_append.mp z with q | q
            · exact m3 q
            · exact m2 q
end
end
/-- data that repr writes: at most w by weight, nested at most k deep -/
structure Sm (d : PyData) (w k : Nat) : Prop where
  sh : d.showable = true
  dp : d.depth ≤ k
  lv : d.leavesShort 100 = true
  wt : d.weight ≤ w
theorem Sm.mono {d : PyData} {w v k m : Nat} (h : Sm d w k) (hw : w ≤ v) (hk : k ≤ m) : Sm d v m := ⟨h.sh, Nat.le_trans h.dp hk, h.lv, Nat.le_trans h.wt hw⟩
/-- each of them -/
def SmE (ds : List PyData) (k : Nat) : Prop := ∀ d ∈ ds, d.showable = true ∧ d.depth ≤ k ∧ d.leavesShort 100 = true
theorem smE_iff : ∀ (ds : List PyData) (k : Nat), SmE ds k ↔ PyData.showableAll ds = true ∧ PyData.depthAll ds ≤ k ∧ PyData.leavesShortAll 100 ds = true
  | [], k => by
    refine ⟨fun _ => ⟨rfl, Nat.zero_le _, rfl⟩, fun _ d h => absurd h List.not_mem_nil⟩
  | d :: ds, k => by
    have ih := smE_iff ds k
    constructor
    · intro h
      have h1 := h d List.mem_cons_self
      have h2 := ih.mp fun e he => h e (List.mem_cons_of_mem _ he)
      refine ⟨?_, ?_, ?_⟩
      · simp only [PyData.showableAll, h1.1, h2.1, Bool.and_self]
      · simp only [PyData.depthAll]
        omega
      · simp only [PyData.leavesShortAll, h1.2.2, h2.2.2, Bool.and_self]
    · rintro ⟨h1, h2, h3⟩ e he
      simp only [PyData.showableAll, Bool.and_eq_true] at h1
      simp only [PyData.depthAll] at h2
      simp only [PyData.leavesShortAll, Bool.and_eq_true] at h3
      rcases List.mem_cons.mp he with rfl | he
      · exact ⟨h1.1, by omega, h3.1⟩
      · exact ih.mpr ⟨h1.2, by omega, h3.2⟩ e he
theorem smE_iff_depth : ∀ (ds : List PyData) (k : Nat), PyData.depthAll ds ≤ k ↔ ∀ d ∈ ds, d.depth ≤ k
  | [], k => ⟨fun _ d h => absurd h List.not_mem_nil, fun _ => Nat.zero_le _⟩
  | d :: ds, k => by
    have ih := smE_iff_depth ds k
    simp only [PyData.depthAll]
    constructor
    · intro h e he
      rcases List.mem_cons.mp he with rfl | he
      · omega
      · exact ih.mp (by omega) e he
    · intro h
      have h1 := h d List.mem_cons_self
      have h2 := ih.mpr fun e he => h e (List.mem_cons_of_mem _ he)
      omega
theorem wt_app : ∀ xs ys : List PyData, PyData.weightAll (xs ++ ys) = PyData.weightAll xs + PyData.weightAll ys
  | [], ys => by simp [PyData.weightAll]
  | x :: xs, ys => by
    rw [List.cons_append]
    simp only [PyData.weightAll, wt_app xs ys]
    omega
theorem wt_len : ∀ xs : List PyData, xs.length ≤ PyData.weightAll xs
  | [] => by simp [PyData.weightAll]
  | x :: xs => by
    have := wt_len xs
    simp only [PyData.weightAll, List.length_cons]
    omega
theorem wt_mem : ∀ {xs : List PyData} {d : PyData}, d ∈ xs → d.weight + 1 ≤ PyData.weightAll xs
  | [], d, h => absurd h List.not_mem_nil
  | x :: xs, d, h => by
    simp only [PyData.weightAll]
    rcases List.mem_cons.mp h with rfl | h
    · omega
    · have := wt_mem h
      omega
theorem Sm.tup {ds : List PyData} {w k : Nat} (h : SmE ds k) (hw : PyData.weightAll ds ≤ w) : Sm (.tuple ds) w (k + 1) := by
  obtain ⟨a, b, c⟩ := (smE_iff ds k).mp h
  refine ⟨?_, ?_, ?_, ?_⟩
  · simpa only [PyData.showable] using a
  · simp only [PyData.depth]
    omega
  · simpa only [PyData.leavesShort] using c
  · simpa only [PyData.weight] using hw
theorem Sm.lst {ds : List PyData} {w k : Nat} (h : SmE ds k) (hw : PyData.weightAll ds ≤ w) : Sm (.list ds) w (k + 1) := by
  obtain ⟨a, b, c⟩ := (smE_iff ds k).mp h
  refine ⟨?_, ?_, ?_, ?_⟩
  · simpa only [PyData.showable] using a
  · simp only [PyData.depth]
    omega
  · simpa only [PyData.leavesShort] using c
  · simpa only [PyData.weight] using hw
theorem Sm.of_tup {ds : List PyData} {w k : Nat} (h : Sm (.tuple ds) w k) : ∃ j, k = j + 1 ∧ SmE ds j ∧ PyData.weightAll ds ≤ w := by
  obtain ⟨a, b, c, e⟩ := h
  simp only [PyData.showable] at a
  simp only [PyData.depth] at b
  simp only [PyData.leavesShort] at c
  simp only [PyData.weight] at e
  refine ⟨k - 1, by omega, (smE_iff ds _).mpr ⟨a, by omega, c⟩, e⟩
theorem Sm.int {i : Int} (h : i.natAbs < 10 ^ 90) : Sm (.int i) 310 0 := by
  have s := Small.int h
  exact ⟨s.sh, s.dp, s.lv, s.wt⟩
theorem Sm.bool (b : Bool) : Sm (.bool b) 0 0 := ⟨rfl, Nat.le_refl _, rfl, Nat.le_refl _⟩
theorem Sm.none : Sm .none 0 0 := ⟨rfl, Nat.le_refl _, rfl, Nat.le_refl _⟩
theorem Sm.e {d : PyData} {w k : Nat} (h : Sm d w k) : d.showable = true ∧ d.depth ≤ k ∧ d.leavesShort 100 = true := ⟨h.sh, h.dp, h.lv⟩
theorem Sm.dict0 : Sm (.dict []) 0 1 := ⟨rfl, by decide, rfl, Nat.le_refl _⟩
theorem Sm.dict1 {x : Str} {d : PyData} {w v k : Nat} (hx : Sm (.str x) v k) (h : Sm d w k) : Sm (.dict [(.str x, d)]) (v + w + 2) (k + 1) := by
  have a := hx.wt
  have b := h.wt
  have c := hx.dp
  have e := h.dp
  refine ⟨?_, ?_, ?_, ?_⟩
  · simp only [PyData.showable, PyData.showableKv, h.sh, Bool.and_self]
  · simp only [PyData.depth, PyData.depthKv]
    omega
  · have e1 := hx.lv
    simp only [PyData.leavesShort, PyData.leavesShortKv] at e1 ⊢
    rw [e1, h.lv]
    rfl
  · simp only [PyData.weight, PyData.weightKv] at a ⊢
    omega
theorem Sm.long {d : PyData} {w k : Nat} (h : Sm d w k) (hw : w ≤ 150000) : d.shown.length ≤ sizeLine := by
  have e := PyData.shown_le 100 (by decide) d h.lv
  have := h.wt
  rw [sizeLine_eq]
  have : (100 + 2) * d.weight ≤ (100 + 2) * 150000 := Nat.mul_le_mul_left _ (Nat.le_trans h.wt hw)
  omega
section
variable {X : Cx}
/-- isinstance(x, T), x data -/
theorem call_isiD : CallR X (.builtin "isinstance") (fun xs H Q => ∃ n v d T b, xs = [v, .ty T] ∧ Da n H v d ∧ kitB (tyD d) T = some b ∧ Q (.bl b) H) := by
  intro pins s σ H xs us Q I r h
  obtain ⟨n, v, d, T, b, rfl, hd, hk, q⟩ := h
  exact call_isi pins s σ H _ us Q I r ⟨v, .ty T, _, _, b, rfl, .ty T, hd.ty, kit_ty hk, q⟩
/-- repr(x), x data -/
theorem call_reprA (hG : X.A.guards = some []) (hu : X.A.units + 64 < cLine) : CallR X (.builtin "repr") (fun xs H Q => ∃ n v d w k, xs = [v] ∧ Da n H v d ∧ Sm d w k ∧ w ≤ 150000 ∧ k ≤ 60 ∧ Q (.str d.shown) H) := by
  intro pins s σ H xs us Q I r h
  obtain ⟨n, v, d, w, k, rfl, hd, S, hw, hk, q⟩ := h
  obtain ⟨u, rfl, ru⟩ := vals1 r
  have hz := S.long hw
  have hsh := S.sh
  cases v with
  | ref a =>
    obtain ⟨as, rd, nm⟩ := Da.reads I d _ u hd ru
    cases ru
    have hn := S.dp
    exact repr_of_reads' rd S.sh (fun _ => nm) hG (by omega) (fun _ _ z => z) (fun h' u tk hk => ⟨.str _, H, I.kept hk, ⟨_, rfl⟩, q⟩) hz
  | non =>
    cases hd
    cases ru
    exact P.repr_of_none ⟨.str "None", H, I.tok _, ⟨_, rfl⟩, q⟩
  | bl b =>
    cases hd
    cases ru
    exact P.repr_of_bool ⟨.str (if b then "True" else "False"), H, I.tok _, ⟨_, rfl⟩, q⟩
  | int i =>
    cases hd
    obtain ⟨t, rfl⟩ := ru
    simp only [PyData.showable, decide_eq_true_eq] at hsh
    exact P.repr_of_int hsh ⟨.str (toString i), H, I.tok _, ⟨_, rfl⟩, q⟩
  | str x =>
    cases hd
    obtain ⟨t, rfl⟩ := ru
    exact P.repr_of_str ⟨.str (reprText x), H, I.tok _, ⟨_, rfl⟩, q⟩ hz
  | _ => cases hd
/-- t == (), t any tuple -/
theorem op_eq0 (hu : X.A.units < cLine) : OpR X (compareOp .Eq) (fun x y H Q => ∃ a b xs, x = .ref a ∧ y = .ref b ∧ SqT X.K H a xs ∧ SqT X.K H b [] ∧ Q (.bl xs.isEmpty) H) := by
  intro pins s σ H x y v u Q I rx ry h
  obtain ⟨a, b, xs, rfl, rfl, ha, hb, q⟩ := h
  cases rx
  cases ry
  obtain ⟨i1, r1, p1, _⟩ := I.tuple ha
  obtain ⟨i2, r2, p2, _⟩ := I.tuple hb
  cases r2
  refine SeqAt.eq_tupleAt (e := fun _ => true) p1 p2 hu (fun j h1 h2 => absurd h2 (by simp)) ?_
  refine ⟨.bl xs.isEmpty, H, I, ?_, q⟩
  have e := r1.length
  cases xs with
  | nil =>
    cases r1
    rfl
  | cons z zs =>
    cases r1
    simp [L2.RelV]
/-- x is y, x is not y, of truths -/
theorem op_isB : OpR X (compareOp .Is) (fun x y H Q => ∃ a b, x = .bl a ∧ y = .bl b ∧ Q (.bl (a == b)) H) := by
  intro pins s σ H x y v u Q I rx ry h
  obtain ⟨a, b, rfl, rfl, q⟩ := h
  cases rx
  cases ry
  exact wpAny_pure ⟨.bl (a == b), H, I, by cases a <;> cases b <;> rfl, q⟩
theorem op_isnotB : OpR X (compareOp .IsNot) (fun x y H Q => ∃ a b, x = .bl a ∧ y = .bl b ∧ Q (.bl (!(a == b))) H) := by
  intro pins s σ H x y v u Q I rx ry h
  obtain ⟨a, b, rfl, rfl, q⟩ := h
  cases rx
  cases ry
  exact wpAny_pure ⟨.bl (!(a == b)), H, I, by cases a <;> cases b <;> rfl, q⟩
/-- t != (), t any tuple -/
theorem op_ne0 (hu : X.A.units < cLine) : OpR X (compareOp .NotEq) (fun x y H Q => ∃ a b xs, x = .ref a ∧ y = .ref b ∧ SqT X.K H a xs ∧ SqT X.K H b [] ∧ Q (.bl (!xs.isEmpty)) H) := by
  intro pins s σ H x y v u Q I rx ry h
  obtain ⟨a, b, xs, rfl, rfl, ha, hb, q⟩ := h
  cases rx
  cases ry
  obtain ⟨i1, r1, p1, _⟩ := I.tuple ha
  obtain ⟨i2, r2, p2, _⟩ := I.tuple hb
  cases r2
  refine SeqAt.RcNeAt.tuples (e := fun _ => true) p1 p2 hu (fun j h1 h2 => absurd h2 (by simp)) X.prog X.w X.xe _ ?_
  refine ⟨.bl (!xs.isEmpty), H, I, ?_, q⟩
  cases xs with
  | nil =>
    cases r1
    rfl
  | cons z zs =>
    cases r1
    simp [L2.RelV]
/-- a written list stands apart from what the machine keeps by itself -/
def tLstN (t : TA) : TE := fun σ H Q => t σ H fun xs H1 => xs.length ≤ sizeLine ∧ ∀ p, H1 p = none → p ≠ sysModules → Q (.ref p) (upd H1 p (.lst xs))
theorem pe_lstN {es : List Expr} {pos : Pos} {t : TA} (h : PA X es t) : PE X (.List es pos) (tLstN t) := by
  refine ⟨fun pins s σ H Q I hq => ?_⟩
  refine wpAny_List_spliced (thn (h.run pos pins s σ H _ I hq) fun us s1 ⟨xs, H1, I1, r, z, q⟩ => ⟨by rw [← r.length]; exact z, ?_⟩)
  have hf : H1 s1.heap.objs.size = none := I1.hok.fresh (Nat.le_refl _)
  refine ⟨.ref s1.heap.objs.size, upd H1 s1.heap.objs.size (.lst xs), I1.laid (t' := s1.toks) (fun b u e => Heap.get?_push_of_some _ e) (Nat.le_refl _) ?_, rfl, q _ hf (Nat.ne_of_gt I1.big)⟩
  exact ⟨z, us, 0, r, Heap.get?_push_size _ rfl⟩
/-- list(t), t a tuple -/
theorem call_list_ofN : CallR X (.type "list") (fun xs H Q => ∃ p ys, xs = [.ref p] ∧ SqT X.K H p ys ∧ ∀ l, H l = none → l ≠ sysModules → Q (.ref l) (upd H l (.lst ys))) := by
  intro pins s σ H xs us Q I r h
  obtain ⟨p, ys, rfl, hq, q⟩ := h
  obtain ⟨u, rfl, rx⟩ := vals1 r
  cases rx
  have fin : ∀ (its : List Value), Vals ys its → ys.length ≤ sizeLine → ∀ (h' : Heap) (c' : Nat), (∀ b o', s.heap.get? b = some o' → h'.get? b = some o') →
      h'.get? s.heap.objs.size = some { cls := .type "list", dict := none, data := .seq its.toArray c', slots := #[] } → EP X pins σ Q (.ref s.heap.objs.size) { s with heap := h' } := fun its r' hz h' c' kp e =>
    ⟨.ref s.heap.objs.size, _, I.laid (t' := s.toks) kp (Nat.le_refl _) (show ObjOk X.prog X.w _ h' _ (.lst ys) from ⟨hz, its, c', r', e⟩), rfl, q _ (I.hok.fresh (Nat.le_refl _)) (Nat.ne_of_gt I.big)⟩
  obtain ⟨its, r', pl, hz⟩ := I.tuple hq
  have hlen := r'.length
  obtain ⟨o, ho, hc, n, hd⟩ := pl
  exact call_list_seq p (.inr rfl) ho hc hd (fun h' c' kp e => fin its r' hz h' c' kp e) (by simp only [List.size_toArray] <;> omega)
end
/-- two ways that come to the same -/
theorem join2 {c : Bool} {A B : VK → Prop} {Q : VK} (R : V → Hp → Prop) (hA : ∀ Q' : VK, (∀ v H, R v H → Q' v H) → A Q') (hB : ∀ Q' : VK, (∀ v H, R v H → Q' v H) → B Q') (hQ : ∀ v H, R v H → Q v H) : if c = true then A Q else B Q := by
  cases c
  · exact iteF (hB Q hQ)
  · exact iteT (hA Q hQ)
theorem inV_int2 (i j k : Int) : inV (V.int i) [V.int j, V.int k] = (decide (i = j) || decide (i = k)) := by
  rw [Bool.eq_iff_iff]
  simp only [inV, eqV, List.any_cons, List.any_nil, Bool.or_false, Bool.or_eq_true, beq_iff_eq, decide_eq_true_eq]
  constructor
  · rintro (h | h)
    · exact .inl h.symm
    · exact .inr h.symm
  · rintro (h | h)
    · exact .inl h.symm
    · exact .inr h.symm
theorem inV_str2 (z x y : Str) : inV (V.str z) [V.str x, V.str y] = (decide (z = x) || decide (z = y)) := by
  rw [Bool.eq_iff_iff]
  simp only [inV, eqV, List.any_cons, List.any_nil, Bool.or_false, Bool.or_eq_true, beq_iff_eq, decide_eq_true_eq]
  constructor
  · rintro (h | h)
    · exact .inl h.symm
    · exact .inr h.symm
  · rintro (h | h)
    · exact .inl h.symm
    · exact .inr h.symm
theorem wipe1 {σ : L2.St} {k : Nat} {v : Option V} {n : Str} : wipe ((wipe σ ([(n, k)].map (·.2))).set k v) ([(n, k)].map (·.2)) = wipe σ ([(n, k)].map (·.2)) := by
  show ((σ.set k none).set k v).set k none = σ.set k none
  rw [List.set_set, List.set_set]
end NB

set_option Elab.async false
set_option linter.all false
set_option maxRecDepth 100000
namespace K64
open PySem PySem.Spec PyProof.Rows L2 NB
def topS (i : Nat) : Stmt := PySem.Challenge.pw_notbothout_k64_whole_known_letters.main.body.getD i (.Pass ⟨0, 0, 0, 0⟩)

/-- all that was tracked stands, but for what is at a -/
def But (a : Addr) (H H' : Hp) : Prop := ∀ b o, b ≠ a → H b = some o → H' b = some o
theorem But.of {a : Addr} {H H' : Hp} (h : Same H H') : But a H H' := fun b o _ e => h b o e
theorem But.trans {a : Addr} {H H1 H2 : Hp} (h : But a H H1) (h' : But a H1 H2) : But a H H2 := fun b o n e => h' b o n (h b o n e)
theorem But.seq {K : PySem.W.Frag} {a l : Addr} {H H' : Hp} {xs : List V} (h : But a H H') (n : l ≠ a) (q : SqL K H l xs) : SqL K H' l xs := by
  rcases q with (q | ⟨o, q⟩) | q
  · exact .inl (.inl (h _ _ n q))
  · exact .inl (.inr ⟨o, h _ _ n q⟩)
  · exact .inr q
theorem But.tup {K : PySem.W.Frag} {a l : Addr} {H H' : Hp} {xs : List V} (h : But a H H') (n : l ≠ a) (q : SqT K H l xs) : SqT K H' l xs := by
  rcases q with (q | ⟨o, q⟩) | q
  · exact .inl (.inl (h _ _ n q))
  · exact .inl (.inr ⟨o, h _ _ n q⟩)
  · exact .inr q
theorem sameT {K : PySem.W.Frag} {l : Addr} {H H' : Hp} {xs : List V} (h : Same H H') (q : SqT K H l xs) : SqT K H' l xs := by
  rcases q with (q | ⟨o, q⟩) | q
  · exact .inl (.inl (h _ _ q))
  · exact .inl (.inr ⟨o, h _ _ q⟩)
  · exact .inr q
theorem same_new {H : Hp} {p : Addr} {o : HO} (h : H p = none) : Same H (upd H p o) := fun b x e => by
  rw [upd_ne (ne_of_none e h)]
  exact e
/-- a cell that was free and is written stands apart from what was -/
theorem same_over {H H' : Hp} {p : Addr} {o : HO} (h : Same H H') (n : H p = none) : Same H (upd H' p o) := fun b x e => by
  rw [upd_ne (ne_of_none e n)]
  exact h b x e

theorem mapGet {α β : Type} {f : α → β} {xs : List α} {i : Nat} {y : β} (h : (xs.map f)[i]? = some y) : ∃ x, xs[i]? = some x ∧ y = f x := by
  rw [List.getElem?_map] at h
  cases e : xs[i]? with
  | none => rw [e] at h; cases h
  | some x => rw [e] at h; exact ⟨x, rfl, (Option.some.inj h).symm⟩

theorem take_map {α β : Type} (f : α → β) (xs : List α) (i : Nat) (y : α) (h : xs[i]? = some y) : (xs.take (i + 1)).map f = (xs.take i).map f ++ [f y] := by
  rw [List.take_add_one, h, List.map_append]
  rfl
theorem take_small {α : Type} {xs : List α} {i : Nat} (h : xs.length ≤ 1000) {β : Type} (f : α → β) : ((xs.take i).map f).length < sizeLine := by
  rw [List.length_map, List.length_take]
  exact Nat.lt_of_le_of_lt (Nat.min_le_right _ _) (small1000 h)

abbrev sPot : Stmt := topS 20
abbrev sTake : Stmt := topS 21
theorem scPot : FnScope ["_law_script", "_law_k", "_law_cell", "_law_great"] ["_law_script", "_law_k"] (defScope sPot) := ⟨rfl, rfl, rfl, by decide +kernel, rfl, by decide +kernel, by decide +kernel⟩
theorem scTake : FnScope ["_law_pot_here", "_law_many", "_law_digit", "_law_prime", "_law_mixed"] ["_law_pot_here", "_law_many"] (defScope sTake) := ⟨rfl, rfl, rfl, by decide +kernel, rfl, by decide +kernel, by decide +kernel⟩
/-- a pot out of which at most c numbers were taken by reckoning -/
def PotAt (H : Hp) (a : Addr) (c : Nat) : Prop := ∃ p q r : Int, H a = some (.lst [.int p, .int q, .int r]) ∧ 0 ≤ p ∧ 0 ≤ r ∧ r ≤ c
theorem PotAt.mono {H : Hp} {a : Addr} {c d : Nat} (h : PotAt H a c) (le : c ≤ d) : PotAt H a d := by
  obtain ⟨p, q, r, e, h1, h2, h3⟩ := h
  exact ⟨p, q, r, e, h1, h2, by omega⟩
theorem PotAt.keep {H H' : Hp} {a : Addr} {c : Nat} (h : PotAt H a c) (s : Same H H') : PotAt H' a c := by
  obtain ⟨p, q, r, e, h1, h2, h3⟩ := h
  exact ⟨p, q, r, s _ _ e, h1, h2, h3⟩
theorem PotAt.ne {H : Hp} {a b : Addr} {c : Nat} (h : PotAt H a c) (n : H b = none) : b ≠ a := by
  obtain ⟨p, q, r, e, _⟩ := h
  exact (ne_of_none e n).symm
theorem But.free {a b : Addr} {H H' : Hp} (h : But a H H') (ne : b ≠ a) (n : H' b = none) : H b = none := by
  cases e : H b with
  | none => rfl
  | some o =>
    rw [h b o ne e] at n
    cases n
theorem but_new {a p : Addr} {H H' : Hp} {o : HO} (h : But a H H') (n : H p = none) : But a H (upd H' p o) := fun b x ne e => by
  rw [upd_ne (ne_of_none e n)]
  exact h b x ne e
theorem but_at {a : Addr} {H H' : Hp} {o : HO} (h : But a H H') : But a H (upd H' a o) := fun b x ne e => by
  rw [upd_ne ne]
  exact h b x ne e

theorem prime_at (j : Int) (h0 : 0 ≤ j) (h4 : j < 4) : ∃ pr : Int, atI [V.int 2305843009213693951, V.int 999999999989, V.int 1000000000039, V.int 67280421310721] j = some (.int pr) ∧ 0 < pr ∧ pr < 2 ^ 62 := by
  have : j = 0 ∨ j = 1 ∨ j = 2 ∨ j = 3 := by omega
  rcases this with rfl | rfl | rfl | rfl
  · exact ⟨_, atI_nat (j := 0) rfl, by decide, by decide⟩
  · exact ⟨_, atI_nat (j := 1) rfl, by decide, by decide⟩
  · exact ⟨_, atI_nat (j := 2) rfl, by decide, by decide⟩
  · exact ⟨_, atI_nat (j := 3) rfl, by decide, by decide⟩

section
variable {P : Program} {w : World} {K : PySem.W.Frag} {mg : Str → Option Value} {base : Heap}

def spPot (K : PySem.W.Frag) : Sp := fun vs H Q _ => ∃ (a : Addr) (ns : List Int) (k : Nat), vs = [.ref a, .int k] ∧ SqL K H a (ns.map V.int) ∧ k ≤ 1000 ∧
  ∀ H' p, Same H H' → H p = none → PotAt H' p 0 → Q (.ref p) H'
theorem ok_pot {f : Addr} {fd : FuncData} {k : Nat} (F : Fun K "_law_pot" "_law_pot" sPot f fd) (ml : mg "len" = none) (ma : mg "abs" = none) (mi : mg "int" = none) : FnOk P w K mg base CX0 (k + 1) f fd ["_law_script", "_law_k"] (spPot K) := by
  refine F.ok scPot (fun vs H Q E h => ?_) (fun cdv A outer s H vs Q E hr h => ?_)
  · obtain ⟨a, ns, k, rfl, _⟩ := h
    rfl
  · obtain ⟨a, ns, k, rfl, hS, hk, q⟩ := h
    refine ⟨_, pss_cons (ps_set (i := 2) scPot.nd rfl (.inl rfl) (pe_ifExp (pt_cmpR op_lt (pv 1) (pe_callB call_len_seq (by rfl) ml PySem.boot_len (pa_cons (pv 0) pa_nil)) (nomark _)) (pe_ix ix_list (pv 0) (pv 1) (fun _ _ => rfl)) (pe_op op_add (pe_op op_mul pe_int (pv 1)) pe_int)))
      (pss_cons (ps_set (i := 3) scPot.nd rfl (.inl rfl) (pe_op op_mul (pe_op op_mod (pe_callB call_abs (by rfl) ma (by decide +kernel) (pa_cons (pv 2) pa_nil)) (pe_op op_powW (pe_op op_pow pe_int pe_int) pe_int))
          (pe_callTy call_int1 (by rfl) mi (by decide +kernel) (pa_cons (pe_cmpR op_ge (pe_callB call_abs (by rfl) ma (by decide +kernel) (pa_cons (pv 2) pa_nil)) (pe_op op_pow pe_int pe_int) (nomark _)) pa_nil))))
      (pss_one (ps_ret (pe_lst (pa_cons (pv 3) (pa_cons (pe_op op_mod (pe_op op_mul (pe_op op_add (pe_op op_add (pe_op op_mod (pv 2) pe_int) (pe_op op_mul (pe_op op_mul pe_int (pv 1)) (pv 1))) pe_int) pe_int) pe_int) (pa_cons pe_int pa_nil))))))), ?_⟩
    have k1 : -(2 ^ 64) < (k : Int) ∧ (k : Int) < 2 ^ 64 := by omega
    have big : (0 : Int) < (10 ^ (60 : Int).toNat) ^ (5 : Int).toNat := by decide +kernel
    have one : ∀ b : Bool, -(2 ^ 64) < (if b = true then (1 : Int) else 0) ∧ (if b = true then (1 : Int) else 0) < 2 ^ 64 := fun b => by cases b <;> decide
    have nn : ∀ (x : Int) (b : Bool), 0 ≤ x % (10 ^ (60 : Int).toNat) ^ (5 : Int).toNat * (if b = true then (1 : Int) else 0) := fun x b => Int.mul_nonneg (Int.emod_nonneg _ (Int.ne_of_gt big)) (by cases b <;> decide)
    refine ⟨.int k, rfl, .ref a, rfl, a, _, rfl, .inl hS, _, _, rfl, rfl, _, rfl, ite2 (fun c => ?_) (fun c => ?_)⟩
    · have c' := of_decide_eq_true c
      rw [List.length_map] at c'
      have lt : k < ns.length := by omega
      refine ⟨.ref a, rfl, .int k, rfl, a, _, k, .int ns[k], rfl, rfl, hS, atI_nat (by rw [List.getElem?_map, List.getElem?_eq_getElem lt]; rfl), ?_⟩
      refine ⟨.int ns[k], rfl, _, rfl, 10, 60, rfl, rfl, ⟨by decide, by decide, by decide⟩, _, 5, rfl, rfl, ⟨by decide, by decide +kernel⟩, _, _, rfl, rfl, big, .int ns[k], rfl, _, rfl, 10, 18, rfl, rfl, ⟨by decide, by decide, by decide⟩, _, _, rfl, rfl, .inr ⟨_, rfl, _, _, rfl, rfl, .inr (one _), ?_⟩⟩
      refine ⟨_, rfl, .int ns[k], rfl, _, 2305843009213693951, rfl, rfl, (show (0 : Int) < 2305843009213693951 by decide), .int k, rfl, 7919, k, rfl, rfl, .inl ⟨by decide, by decide⟩, .int k, rfl, _, k, rfl, rfl, .inr k1, _, _, rfl, rfl, _, 17, rfl, rfl, _, 48271, rfl, rfl, .inr ⟨by decide, by decide⟩, _, 2305843009213693921, rfl, rfl, (show (0 : Int) < 2305843009213693921 by decide), (show 3 ≤ sizeLine by decide), fun p np => ?_⟩
      exact q _ p (same_new np) np ⟨_, _, 0, upd_same, nn _ _, Int.le_refl _, Int.le_refl _⟩
    · refine ⟨.int k, rfl, 7, _, rfl, rfl, .inl ⟨by decide, by decide⟩, _, 3, rfl, rfl, ?_⟩
      refine ⟨_, rfl, _, rfl, 10, 60, rfl, rfl, ⟨by decide, by decide, by decide⟩, _, 5, rfl, rfl, ⟨by decide, by decide +kernel⟩, _, _, rfl, rfl, big, _, rfl, _, rfl, 10, 18, rfl, rfl, ⟨by decide, by decide, by decide⟩, _, _, rfl, rfl, .inr ⟨_, rfl, _, _, rfl, rfl, .inr (one _), ?_⟩⟩
      refine ⟨_, rfl, _, rfl, _, 2305843009213693951, rfl, rfl, (show (0 : Int) < 2305843009213693951 by decide), .int k, rfl, 7919, k, rfl, rfl, .inl ⟨by decide, by decide⟩, .int k, rfl, _, k, rfl, rfl, .inr k1, _, _, rfl, rfl, _, 17, rfl, rfl, _, 48271, rfl, rfl, .inr ⟨by decide, by decide⟩, _, 2305843009213693921, rfl, rfl, (show (0 : Int) < 2305843009213693921 by decide), (show 3 ≤ sizeLine by decide), fun p np => ?_⟩
      exact q _ p (same_new np) np ⟨_, _, 0, upd_same, nn _ _, Int.le_refl _, Int.le_refl _⟩

/-- a drawn number -/
def spTake : Sp := fun vs H Q _ => ∃ (a : Addr) (m : Int) (c : Nat), vs = [.ref a, .int m] ∧ PotAt H a c ∧ 1 ≤ m ∧ m < 2 ^ 200 ∧ c < 1000000 ∧
  ∀ (d : Int) H', But a H H' → PotAt H' a (c + 1) → 0 ≤ d → d < m → Q (.int d) H'
theorem ok_take {f : Addr} {fd : FuncData} {k : Nat} (F : Fun K "_law_take" "_law_take" sTake f fd) : FnOk P w K mg base CX0 (k + 1) f fd ["_law_pot_here", "_law_many"] spTake := by
  refine F.ok scTake (fun vs H Q E h => ?_) (fun cdv A outer s H vs Q E hr h => ?_)
  · obtain ⟨a, m, c, rfl, _⟩ := h
    rfl
  · obtain ⟨a, m, c, rfl, ⟨p0, p1, p2, ea, n0, n2, l2⟩, m1, m2, hc, q⟩ := h
    refine ⟨_, pss_cons (ps_if (pt_cmpR op_gt (pe_ix ix_list (pv 0) pe_int (fun _ _ => rfl)) pe_int (nomark _))
        (pss_cons (ps_set (i := 2) scTake.nd rfl (.inl rfl) (pe_op op_mod (pe_ix ix_list (pv 0) pe_int (fun _ _ => rfl)) (pv 1)))
        (pss_cons (ps_asg (pe_op op_fdivW (pe_ix ix_list (pv 0) pe_int (fun _ _ => rfl)) (pv 1)) (pg_sub (pv 0) pe_int set_list))
        (pss_one (ps_ret (pv 2))))) pss_nil)
      (pss_cons (ps_asg (pe_op op_add (pe_ix ix_list (pv 0) pe_int (fun _ _ => rfl)) pe_int) (pg_sub (pv 0) pe_int set_list))
      (pss_cons (ps_set (i := 3) scTake.nd rfl (.inl rfl) (pe_ix ix_list (pe_lst (pa_cons pe_int (pa_cons pe_int (pa_cons pe_int (pa_cons pe_int pa_nil))))) (pe_op op_mod (pe_ix ix_list (pv 0) pe_int (fun _ _ => rfl)) pe_int) (fun _ _ => rfl)))
      (pss_cons (ps_set (i := 4) scTake.nd rfl (.inl rfl) (pe_op op_mod (pe_op op_add (pe_op op_add (pe_ix ix_list (pv 0) pe_int (fun _ _ => rfl)) (pe_op op_mul (pe_op op_mul pe_int (pe_ix ix_list (pv 0) pe_int (fun _ _ => rfl))) (pe_ix ix_list (pv 0) pe_int (fun _ _ => rfl)))) (pe_op op_mul pe_int (pe_ix ix_list (pv 0) pe_int (fun _ _ => rfl)))) (pv 3)))
      (pss_cons (ps_set (i := 4) scTake.nd rfl (.inl rfl) (pe_op op_mod (pe_op op_pow (pv 4) pe_int) (pv 3)))
      (pss_one (ps_ret (pe_op op_mod (pe_op op_add (pe_op op_fdiv (pv 4) pe_int) (pe_op op_mul (pe_op op_fdiv (pv 4) pe_int) pe_int)) (pv 1)))))))), ?_⟩
    have mpos : (0 : Int) < m := by omega
    refine ⟨.ref a, rfl, a, _, 0, .int p0, rfl, rfl, .inl (.inl ea), atI_nat (j := 0) rfl, _, 0, rfl, rfl, _, rfl, ite2 (fun _ => ?_) (fun _ => ?_)⟩
    · refine ⟨.ref a, rfl, a, _, 0, .int p0, rfl, rfl, .inl (.inl ea), atI_nat (j := 0) rfl, .int m, rfl, p0, m, rfl, rfl, mpos, ?_⟩
      refine ⟨.ref a, rfl, a, _, 0, .int p0, rfl, rfl, .inl (.inl ea), atI_nat (j := 0) rfl, .int m, rfl, p0, m, rfl, rfl, wide_div (b := 200) mpos (by omega) (by decide) (by decide), ?_⟩
      refine ⟨.ref a, rfl, a, _, 0, 0, rfl, rfl, ea, rfl, ?_⟩
      refine ⟨.int (p0 % m), rfl, ?_⟩
      refine q _ _ (but_at (fun _ _ _ e => e)) ⟨p0 / m, p1, p2, upd_same, Int.ediv_nonneg n0 (by omega), n2, by omega⟩ (Int.emod_nonneg _ (by omega)) (Int.emod_lt_of_pos _ mpos)
    · refine ⟨.ref a, rfl, a, _, 2, .int p2, rfl, rfl, .inl (.inl ea), atI_nat (j := 2) rfl, p2, 1, rfl, rfl, ?_⟩
      refine ⟨.ref a, rfl, a, _, 2, 2, rfl, rfl, ea, rfl, ?_⟩
      obtain ⟨pr, epr, pp, pl⟩ := prime_at ((p2 + 1) % 4) (Int.emod_nonneg _ (by decide)) (Int.emod_lt_of_pos _ (by decide))
      have ea2 : (upd H a (.lst [.int p0, .int p1, .int (p2 + 1)])) a = some (.lst [.int p0, .int p1, .int (p2 + 1)]) := upd_same
      refine ⟨(show 4 ≤ sizeLine by decide), fun l nl => ?_⟩
      have nla : a ≠ l := ne_of_none ea2 nl
      have ea3 : (upd (upd H a (.lst [.int p0, .int p1, .int (p2 + 1)])) l (.lst [V.int 2305843009213693951, V.int 999999999989, V.int 1000000000039, V.int 67280421310721])) a = some (.lst [.int p0, .int p1, .int (p2 + 1)]) := (upd_ne nla).trans ea2
      refine ⟨.ref a, rfl, a, _, 2, .int (p2 + 1), rfl, rfl, .inl (.inl ea3), atI_nat (j := 2) rfl, p2 + 1, 4, rfl, rfl, (show (0 : Int) < 4 by decide), l, _, (p2 + 1) % 4, .int pr, rfl, rfl, .inl (.inl upd_same), epr, ?_⟩
      have b2 : -(2 ^ 64) < p2 + 1 ∧ p2 + 1 < 2 ^ 64 := by omega
      refine ⟨.ref a, rfl, a, _, 1, .int p1, rfl, rfl, .inl (.inl ea3), atI_nat (j := 1) rfl, .ref a, rfl, a, _, 2, .int (p2 + 1), rfl, rfl, .inl (.inl ea3), atI_nat (j := 2) rfl, 7919, p2 + 1, rfl, rfl, .inl ⟨by decide, by decide⟩, .ref a, rfl, a, _, 2, .int (p2 + 1), rfl, rfl, .inl (.inl ea3), atI_nat (j := 2) rfl, _, p2 + 1, rfl, rfl, .inr b2, _, _, rfl, rfl,
        .ref a, rfl, a, _, 2, .int (p2 + 1), rfl, rfl, .inl (.inl ea3), atI_nat (j := 2) rfl, 65537, p2 + 1, rfl, rfl, .inl ⟨by decide, by decide⟩, _, _, rfl, rfl, .int pr, rfl, _, pr, rfl, rfl, pp, ?_⟩
      have mx : ∀ e : Int, (e % pr).natAbs < 2 ^ 64 := fun e => by
        have h1 := Int.emod_nonneg e (Int.ne_of_gt pp)
        have h2 := Int.emod_lt_of_pos e pp
        omega
      refine ⟨_, rfl, _, 5, rfl, rfl, ⟨by decide, by decide, mx _⟩, .int pr, rfl, _, pr, rfl, rfl, pp, ?_⟩
      refine ⟨_, rfl, _, 4099, rfl, rfl, ⟨by decide, by decide⟩, _, rfl, _, 1000003, rfl, rfl, ⟨by decide, by decide⟩, _, 7, rfl, rfl, .inr ⟨by decide, by decide⟩, _, _, rfl, rfl, .int m, rfl, _, m, rfl, rfl, mpos, ?_⟩
      refine q _ _ ?_ ⟨p0, p1, p2 + 1, ea3, n0, by omega, by omega⟩ (Int.emod_nonneg _ (by omega)) (Int.emod_lt_of_pos _ mpos)
      exact but_new (but_at (fun _ _ _ e => e)) (by rw [upd_ne nla.symm] at nl; exact nl)
end

/-- a def that is known by its promise -/
structure Kn (P : Program) (w : World) (K : PySem.W.Frag) (mg : Str → Option Value) (base : Heap) (k : Nat) (x : Str) (ps : List Str) (sp : Sp) (f : Addr) (fd : FuncData) : Prop where
  ok : FnOk P w K mg base CX0 k f fd ps sp
  gl : mg x = some (.ref f)
  kp : PySem.W.keepIn K (.ref f) = true
  bi : Binds K fd ps []
theorem pe_kn {X : Cx} {k j : Nat} {x : Str} {ps : List Str} {sp : Sp} {f : Addr} {fd : FuncData} {p pos : Pos} {e : Expr} {es : List Expr} {t : TA} (C : Kn X.prog X.w X.K X.mg X.base k x ps sp f fd) (hr : Room j X.A) (hj : k ≤ j) (ha : PA X (e :: es) t) (hg : Gl X x := by rfl) (hdb : (x == ("__debug__" : Str)) = false := by decide)
    (he : starEach (e :: es) X.env = (false, eval e X.env) :: starEach es X.env := by rfl) (hpl : (backTo pos (starEach es X.env)).any (·.1) = false := by rfl) :
    PE X (.Call (.Name x p) (e :: es) [] pos) (tCall sp [] E0 t) := pe_call C.ok (hr.mono hj) hg C.gl C.kp C.bi .nil pass0 ha hdb he hpl

theorem But.tupP {K : PySem.W.Frag} {a t : Addr} {H H' : Hp} {c : Nat} {xs : List V} (b : But a H H') (p : PotAt H a c) (q : SqT K H t xs) : SqT K H' t xs := by
  obtain ⟨_, _, _, e, _⟩ := p
  rcases q with (q | ⟨o, q⟩) | q
  · exact .inl (.inl (b _ _ (ne_of q e (by intro z; cases z)) q))
  · exact .inl (.inr ⟨o, b _ _ (ne_of q e (by intro z; cases z)) q⟩)
  · exact .inr q
/-- places, or tops -/
def Pl (xs : List Int) : Prop := ∀ x ∈ xs, 0 ≤ x ∧ x < 10 ^ 30
theorem Pl.snoc {xs : List Int} {x : Int} (h : Pl xs) (h0 : 0 ≤ x) (h1 : x < 10 ^ 30) : Pl (xs ++ [x]) := fun y hy => by
  rcases List.mem_append.mp hy with q | q
  · exact h y q
  · rw [List.mem_singleton.mp q]
    exact ⟨h0, h1⟩

section
variable {P : Program} {w : World} {K : PySem.W.Frag} {mg : Str → Option Value} {base : Heap}

/-- none beyond its top -/
def Le (st tops : List Int) : Prop := ∀ (i : Nat) (x t : Int), st[i]? = some x → tops[i]? = some t → x ≤ t
theorem Le.snoc {st tops : List Int} {x t : Int} (h : Le st tops) (e : tops[st.length]? = some t) (l : x ≤ t) : Le (st ++ [x]) tops := fun i y u h1 h2 => by
  rcases Nat.lt_or_ge i st.length with q | q
  · rw [List.getElem?_append_left q] at h1
    exact h i y u h1 h2
  · rw [List.getElem?_append_right q] at h1
    have e0 : i - st.length = 0 := by
      rcases Nat.eq_zero_or_pos (i - st.length) with z | z
      · exact z
      · rw [List.getElem?_eq_none (by simp only [List.length_cons, List.length_nil]; omega)] at h1
        cases h1
    have ei : i = st.length := by omega
    subst ei
    rw [e0] at h1
    cases h1
    rw [e] at h2
    cases h2
    exact l
end

section
variable {P : Program} {w : World} {K : PySem.W.Frag} {mg : Str → Option Value} {base : Heap}

theorem pot_upd {H : Hp} {a p : Addr} {c : Nat} {o : HO} (h : PotAt H a c) (n : p ≠ a) : PotAt (upd H p o) a c := by
  obtain ⟨x, y, z, e, r⟩ := h
  exact ⟨x, y, z, (upd_ne n.symm).trans e, r⟩
theorem e15 : (10 : Int) ^ (15 : Int).toNat = 1000000000000000 := by decide
theorem e30 : (10 : Int) ^ (30 : Int).toNat = 10 ^ 30 := by decide

end
end K64

set_option Elab.async false
set_option linter.all false
set_option maxRecDepth 100000
namespace K64
open PySem PySem.Spec PyProof.Rows L2 NB
def Keep (H H' : Hp) : Prop := ∀ b o, (∀ xs, o ≠ .lst xs) → H b = some o → H' b = some o
theorem Keep.refl (H : Hp) : Keep H H := fun _ _ _ e => e
theorem Keep.trans {H H1 H2 : Hp} (a : Keep H H1) (b : Keep H1 H2) : Keep H H2 := fun c o n e => b c o n (a c o n e)
theorem Keep.same {H H' : Hp} (h : Same H H') : Keep H H' := fun b o _ e => h b o e
theorem Keep.but {a : Addr} {H H' : Hp} {c : Nat} (h : But a H H') (p : PotAt H a c) : Keep H H' := fun b o n e => by
  obtain ⟨x, y, z, ea, _⟩ := p
  exact h b o (fun q => n _ (by rw [q, ea] at e; exact (Option.some.inj e).symm)) e
theorem Keep.upd {H : Hp} {l : Addr} {o : HO} {xs : List V} (e : H l = some (.lst xs)) : Keep H (upd H l o) := fun b x n q => by
  rw [upd_ne (fun z => n xs (by rw [z, e] at q; exact (Option.some.inj q).symm))]
  exact q
theorem Keep.tup {H H' : Hp} {p : Addr} {xs : List V} (k : Keep H H') (e : H p = some (.tup xs)) : H' p = some (.tup xs) := k _ _ (fun _ q => by cases q) e
theorem Keep.sq {K : PySem.W.Frag} {H H' : Hp} {p : Addr} {xs : List V} (k : Keep H H') (e : SqT K H p xs) : SqT K H' p xs := by
  rcases e with (q | ⟨o, q⟩) | q
  · exact .inl (.inl (k _ _ (fun _ q => by cases q) q))
  · exact .inl (.inr ⟨o, k _ _ (fun _ q => by cases q) q⟩)
  · exact .inr q

abbrev Sd := Nat × Bool × Int
abbrev Rl := Sd × Sd
def word (b : Bool) : Str := if b then "from" else "to"
def SideAt (H : Hp) (p : Addr) (s : Sd) : Prop := H p = some (.tup [.int s.1, .str (word s.2.1), .int s.2.2])
def RuleAt (H : Hp) (r : Addr) (q : Rl) : Prop := ∃ p1 p2, H r = some (.tup [.ref p1, .ref p2]) ∧ SideAt H p1 q.1 ∧ SideAt H p2 q.2
theorem SideAt.keep {H H' : Hp} {p : Addr} {s : Sd} (h : SideAt H p s) (k : Keep H H') : SideAt H' p s := k.tup h
theorem RuleAt.keep {H H' : Hp} {p : Addr} {q : Rl} (h : RuleAt H p q) (k : Keep H H') : RuleAt H' p q := by
  obtain ⟨p1, p2, e, h1, h2⟩ := h
  exact ⟨p1, p2, k.tup e, h1.keep k, h2.keep k⟩
theorem word_in (b : Bool) : inV (.str (word b)) [.str "from", .str "to"] = true := by cases b <;> decide +kernel
theorem word_from : word true = "from" := rfl

end K64

set_option Elab.async false
set_option linter.all false
set_option maxRecDepth 100000
namespace K64
open PySem PySem.Spec PyProof.Rows L2 NB

/-! ### letters, of anything -/
def wholeD : PyData → Bool
  | .int _ => true
  | _ => false
def countD : PyData → Bool
  | .int i => decide (0 ≤ i)
  | _ => false
def noneD : PyData → Bool
  | .none => true
  | _ => false
def posD : PyData → Bool
  | .int i => decide (1 ≤ i)
  | _ => false
def standD : PyData → Bool
  | .tuple ps => (decide (1 ≤ ps.length) && decide (ps.length ≤ 12)) && ps.all countD
  | _ => false
def wishD : PyData → Bool
  | .tuple ds => decide (ds.length = 2) && (posD (ds.getD 0 .none) && standD (ds.getD 1 .none))
  | _ => false
def strIs (z : Str) : PyData → Bool
  | .str x => decide (x = z)
  | _ => false
def letterD : PyData → Bool
  | .tuple ds => if ds.length = 2 then strIs "word" (ds.getD 0 .none) && wishD (ds.getD 1 .none)
      else decide (ds.length = 4) && ((strIs "ask" (ds.getD 0 .none) || strIs "leave" (ds.getD 0 .none)) && ((countD (ds.getD 1 .none) && countD (ds.getD 2 .none)) && (noneD (ds.getD 3 .none) || wishD (ds.getD 3 .none))))
  | _ => false
theorem tup_or (d : PyData) : (∃ ds, d = .tuple ds) ∨ isTupD d = false := by
  cases d with
  | tuple ds => exact .inl ⟨ds, rfl⟩
  | _ => exact .inr rfl
theorem not_tup {d : PyData} (h : isTupD d = false) : wishD d = false ∧ letterD d = false ∧ standD d = false := by
  cases d with
  | tuple ds => cases h
  | _ => exact ⟨rfl, rfl, rfl⟩
theorem all_take {α : Type} (g : α → Bool) (xs : List α) (i : Nat) (y : α) (h : xs[i]? = some y) : ((xs.take (i + 1)).map g).map V.bl = ((xs.take i).map g).map V.bl ++ [V.bl (g y)] := by
  rw [List.take_add_one, h, List.map_append, List.map_append]
  rfl
theorem all_id {α : Type} (g : α → Bool) (xs : List α) : (xs.map g).all id = xs.all g := by
  rw [List.all_map]
  rfl
section
variable {P : Program} {w : World} {K : PySem.W.Frag} {mg : Str → Option Value} {base : Heap}
/-- a look at data that leaves all as it is -/
def spLook (g : PyData → Bool) : Sp := fun vs H Q _ => ∃ (n : Addr) (v : V) (d : PyData), vs = [v] ∧ Da n H v d ∧ ∀ H', Same H H' → Q (.bl (g d)) H'
abbrev a_is_whole : Stmt := topS 6
abbrev n_is_whole : List Str := ["thing"]
theorem sc_is_whole : FnScope n_is_whole ["thing"] (defScope a_is_whole) := ⟨rfl, rfl, rfl, by decide +kernel, rfl, by decide +kernel, by decide +kernel⟩
set_option maxHeartbeats 8000000 in
theorem ok_is_whole {f  : Addr} {fd  : FuncData} {k : Nat}  (F : Fun K "is_whole" "is_whole" a_is_whole f fd)   (m_bool : mg "bool" = none) (m_int : mg "int" = none) (m_isinstance : mg "isinstance" = none) : FnOk P w K mg base CX0 (k + 1) f fd ["thing"] (spLook wholeD) := by
  refine F.ok sc_is_whole (fun vs H Q E h => ?_) (fun cdv A outer s H vs Q E hr h => ?_)
  · obtain ⟨n, v, d, rfl, _⟩ := h
    rfl
  · obtain ⟨n, v, d, rfl, hd, q⟩ := h
    refine ⟨_, (pss_one (ps_ret (pe_and (pe_callB call_isiD (by rfl) m_isinstance (by decide +kernel) (pa_cons (pv 0) (pa_cons (pe_bltn (v := .ty "int") (u := .type "int") (by rfl) m_int (by decide +kernel) rfl) pa_nil))) (pe_one (pe_not (pe_callB call_isiD (by rfl) m_isinstance (by decide +kernel) (pa_cons (pv 0) (pa_cons (pe_bltn (v := .ty "bool") (u := .type "bool") (by rfl) m_bool (by decide +kernel) rfl) pa_nil)))))))), ?_⟩
    refine ⟨v, rfl, n, v, d, "int", _, rfl, hd, kit_int d, _, rfl, ?_⟩
    cases hd with
    | int i => exact iteT ⟨_, rfl, n, _, _, "bool", _, rfl, .int i, kit_bool _, _, rfl, q H (Same.refl H)⟩
    | bl b => exact iteT ⟨_, rfl, n, _, _, "bool", _, rfl, .bl b, kit_bool _, _, rfl, q H (Same.refl H)⟩
    | _ => exact iteF (q H (Same.refl H))
abbrev a_is_count : Stmt := topS 8
abbrev n_is_count : List Str := ["thing"]
theorem sc_is_count : FnScope n_is_count ["thing"] (defScope a_is_count) := ⟨rfl, rfl, rfl, by decide +kernel, rfl, by decide +kernel, by decide +kernel⟩
set_option maxHeartbeats 8000000 in
theorem ok_is_count {f fWh : Addr} {fd fdWh : FuncData} {k : Nat}  (F : Fun K "is_count" "is_count" a_is_count f fd) (Wh : Kn P w K mg base 1 "is_whole" ["thing"] (spLook wholeD) fWh fdWh)   : FnOk P w K mg base CX0 (k + 2) f fd ["thing"] (spLook countD) := by
  refine F.ok sc_is_count (fun vs H Q E h => ?_) (fun cdv A outer s H vs Q E hr h => ?_)
  · obtain ⟨n, v, d, rfl, _⟩ := h
    rfl
  · obtain ⟨n, v, d, rfl, hd, q⟩ := h
    refine ⟨_, (pss_one (ps_ret (pe_and (pe_kn Wh hr (by omega) (pa_cons (pv 0) pa_nil)) (pe_one (pe_cmpR op_ge (pv 0) pe_int (nomark _)))))), ?_⟩
    refine ⟨v, rfl, n, v, d, rfl, hd, fun H1 s1 => ⟨_, rfl, ?_⟩⟩
    cases hd with
    | int i => exact iteT ⟨_, rfl, i, 0, rfl, rfl, q H1 s1⟩
    | _ => exact iteF (q H1 s1)
abbrev a_is_wish : Stmt := topS 9
abbrev n_is_wish : List Str := ["thing", "number", "standing", "place"]
theorem sc_is_wish : FnScope n_is_wish ["thing"] (defScope a_is_wish) := ⟨rfl, rfl, rfl, by decide +kernel, rfl, by decide +kernel, by decide +kernel⟩
set_option maxHeartbeats 8000000 in
theorem ok_is_wish {f fWh fCo : Addr} {fd fdWh fdCo : FuncData} {k : Nat} {t1 : Tok} (F : Fun K "is_wish" "is_wish" a_is_wish f fd) (Wh : Kn P w K mg base 1 "is_whole" ["thing"] (spLook wholeD) fWh fdWh) (Co : Kn P w K mg base 2 "is_count" ["thing"] (spLook countD) fCo fdCo) (gv1 : mg "MOST_THINGS" = some (.int 12 t1)) (m_all : mg "all" = none) (m_isinstance : mg "isinstance" = none) (m_len : mg "len" = none) (m_tuple : mg "tuple" = none) : FnOk P w K mg base CX0 (k + 3) f fd ["thing"] (spLook wishD) := by
  refine F.ok sc_is_wish (fun vs H Q E h => ?_) (fun cdv A outer s H vs Q E hr h => ?_)
  · obtain ⟨n, v, d, rfl, _⟩ := h
    rfl
  · obtain ⟨n, v, d, rfl, hd, q⟩ := h
    refine ⟨_, (pss_cons (ps_if (PW.pt (pw_or (pt_not (pt_val (pe_callB call_isiD (by rfl) m_isinstance (by decide +kernel) (pa_cons (pv 0) (pa_cons (pe_bltn (v := .ty "tuple") (u := .type "tuple") (by rfl) m_tuple (by decide +kernel) rfl) pa_nil))))) (pw_or1 (pt_cmpR op_ne (pe_callB call_len_seq (by rfl) m_len (by decide +kernel) (pa_cons (pv 0) pa_nil)) pe_int (nomark _))))) (pss_one (ps_ret pe_bl)) pss_nil)
      (pss_cons (ps_asg (pv 0) (pg_tup rfl (pgs_cons (pg_name (i := 1) sc_is_wish.nd rfl (.inl rfl)) (pgs_cons (pg_name (i := 2) sc_is_wish.nd rfl (.inl rfl)) pgs_nil))))
      (pss_cons (ps_if (PW.pt (pw_or (pt_not (pt_val (pe_kn Wh hr (by omega) (pa_cons (pv 1) pa_nil)))) (pw_or1 (pt_cmpR op_lt (pv 1) pe_int (nomark _))))) (pss_one (ps_ret pe_bl)) pss_nil)
      (pss_cons (ps_if (PW.pt (pw_or (pt_not (pt_val (pe_callB call_isiD (by rfl) m_isinstance (by decide +kernel) (pa_cons (pv 2) (pa_cons (pe_bltn (v := .ty "tuple") (u := .type "tuple") (by rfl) m_tuple (by decide +kernel) rfl) pa_nil))))) (pw_or1 (pt_not (pt_chain op_le op_le pe_int (pe_callB call_len_seq (by rfl) m_len (by decide +kernel) (pa_cons (pv 2) pa_nil)) (pe_glob (v := .int 12) rfl gv1 ⟨_, rfl⟩)))))) (pss_one (ps_ret pe_bl)) pss_nil)
      (pss_one (ps_ret (pe_callB (cr_all rfl) (by rfl) m_all (by decide +kernel) (pa_cons (
        pe_lc (own := [("place", 3)]) (g := (gName 3)) (tt := tYes) (te := (tCall (spLook countD) [] E0 (tCons (tVar 3) tNil))) rfl sc_is_wish.nd (pi_tup (pv 2)) (blkOk_by (N := n_is_wish) (sc := defScope a_is_wish) (by decide +kernel))
          (fun _ _ _ _ _ => (pg_name (i := 3) sc_is_wish.nd rfl (.inl rfl) (hf := .inr rfl))) (fun _ _ _ _ _ => pts_nil) (fun _ _ _ _ _ => (pe_kn Co hr (by omega) (pa_cons (pv 3) pa_nil)))) pa_nil)))))))), ?_⟩
    rcases tup_or d with ⟨ds, rfl⟩ | hn
    · cases hd with
      | tup e ha =>
      rename_i a xs
      have ll := ha.len
      refine ⟨_, rfl, n, _, _, "tuple", _, rfl, .tup e ha, kit_tup _, _, rfl, iteF ⟨_, rfl, a, xs, rfl, .inr (.inl (.inl e)), rfl, _, rfl, ite2 (fun c => ?_) (fun c => ?_)⟩⟩
      · have c' : ¬ ds.length = 2 := fun z => by rw [ll, z] at c; exact absurd c (by decide)
        have : wishD (.tuple ds) = false := by simp [wishD, c']
        rw [this] at q
        exact q H (Same.refl H)
      · have c' : ds.length = 2 := Classical.byContradiction fun z => c (by
          have : ¬ ((xs.length : Int) = 2) := by omega
          simp [this])
        match ds, c', ha with
        | [d0, d1], _, .cons h0 (.cons h1 .nil) =>
        rename_i v0 v1
        have eW : wishD (.tuple [d0, d1]) = (posD d0 && standD d1) := by simp [wishD]
        rw [eW] at q
        refine ⟨_, rfl, a, _, rfl, .inl (.inl e), rfl, _, _, rfl, _, _, rfl, rfl, ?_⟩
        refine ⟨_, rfl, n, _, d0, rfl, h0, fun H1 s1 => ⟨_, rfl, ?_⟩⟩
        cases h0 with
        | int i =>
          refine iteF ⟨_, rfl, i, 1, rfl, rfl, _, rfl, ite2 (fun c => ?_) (fun c => ?_)⟩
          · have : posD (.int i) = false := decide_eq_false (by have := of_decide_eq_true c; omega)
            rw [this] at q
            exact q H1 s1
          · have : posD (.int i) = true := decide_eq_true (by have := of_decide_eq_false (Bool.eq_false_iff.mpr c); omega)
            rw [this, Bool.true_and] at q
            rcases tup_or d1 with ⟨ps, rfl⟩ | hn
            · cases h1 with
              | tup e1 h2 =>
              rename_i b ys
              have l2 := h2.len
              have e1' := s1 _ _ e1
              refine ⟨_, rfl, n, _, _, "tuple", _, rfl, (Da.tup e1 h2).same s1, kit_tup _, _, rfl, iteF ⟨_, rfl, b, ys, rfl, .inr (.inl (.inl e1')), 1, _, rfl, rfl, _, rfl, ?_⟩⟩
              have eS : standD (.tuple ps) = ((decide (1 ≤ ps.length) && decide (ps.length ≤ 12)) && ps.all countD) := rfl
              rw [eS] at q
              refine ite2 (fun c1 => ⟨_, 12, rfl, rfl, _, rfl, ?_⟩) (fun c1 => ?_)
              · have c1' := of_decide_eq_true c1
                refine ite2 (fun c2 => ?_) (fun c2 => ?_)
                · have c2' : ¬ ps.length ≤ 12 := fun z => by
                    have : ((ys.length : Int) ≤ 12) := by omega
                    simp [this] at c2
                  rw [decide_eq_false c2', Bool.and_false, Bool.false_and] at q
                  exact q H1 s1
                · have c2' : ps.length ≤ 12 := Classical.byContradiction fun z => c2 (by
                    have : ¬ ((ys.length : Int) ≤ 12) := by omega
                    simp [this])
                  rw [decide_eq_true c2', decide_eq_true (show 1 ≤ ps.length by omega), Bool.true_and, Bool.true_and] at q
                  refine ⟨_, rfl, b, rfl, ⟨_, .inl (.inl e1')⟩, fun D nD => lc_it (walk_tup (xs := ys)) (fun i H' => Same H1 H' ∧ H' D = some (.lst (((ps.take i).map countD).map V.bl))) ⟨same_new nD, upd_same⟩ (fun i H' _ p => .inl (.inl (p.1 _ _ e1'))) (fun i v H2 H3 hi p y => ?_) (fun H' p => ?_)⟩
                  · obtain ⟨sm, eD⟩ := p
                    obtain ⟨rfl, gv⟩ := y
                    obtain ⟨dd, ed, hdd⟩ := h2.get i v gv
                    refine ⟨wipe1, _, rfl, n, v, dd, rfl, (hdd.same s1).same sm, fun H4 s4 => ⟨_, s4 _ _ eD, ?_, same_over (sm.trans s4) nD, ?_⟩⟩
                    · rw [List.length_map, List.length_map, List.length_take]
                      exact small1000 (by omega)
                    · rw [upd_same, all_take countD ps i dd ed]
                  · obtain ⟨sm, eD⟩ := p
                    rw [show ys.length = ps.length from l2, List.take_length] at eD
                    refine ⟨D, _, rfl, .inl (.inl eD), ?_⟩
                    rw [all_id]
                    exact q H' (s1.trans sm)
              · have c1' : ¬ 1 ≤ ps.length := fun z => c1 (decide_eq_true (by omega))
                refine ⟨false, rfl, iteT ?_⟩
                rw [decide_eq_false c1', Bool.false_and, Bool.false_and] at q
                exact q H1 s1
            · have t := (not_tup hn).2.2
              refine ⟨_, rfl, n, _, d1, "tuple", _, rfl, h1.same s1, kit_tup d1, _, rfl, ?_⟩
              rw [hn]
              rw [t] at q
              exact iteT (q H1 s1)
        | _ => exact iteT (q H1 s1)
    · have t := (not_tup hn).1
      refine ⟨_, rfl, n, _, d, "tuple", _, rfl, hd, kit_tup d, _, rfl, ?_⟩
      rw [hn]
      rw [t] at q
      exact iteT (q H (Same.refl H))
abbrev a_is_letter : Stmt := topS 10
abbrev n_is_letter : List Str := ["thing", "word", "rule", "count", "wish"]
theorem sc_is_letter : FnScope n_is_letter ["thing"] (defScope a_is_letter) := ⟨rfl, rfl, rfl, by decide +kernel, rfl, by decide +kernel, by decide +kernel⟩
set_option maxHeartbeats 8000000 in
theorem ok_is_letter {f fCo fWi : Addr} {fd fdCo fdWi : FuncData} {k : Nat}  (F : Fun K "is_letter" "is_letter" a_is_letter f fd) (Co : Kn P w K mg base 2 "is_count" ["thing"] (spLook countD) fCo fdCo) (Wi : Kn P w K mg base 3 "is_wish" ["thing"] (spLook wishD) fWi fdWi)  (m_isinstance : mg "isinstance" = none) (m_len : mg "len" = none) (m_str : mg "str" = none) (m_tuple : mg "tuple" = none) : FnOk P w K mg base CX0 (k + 4) f fd ["thing"] (spLook letterD) := by
  refine F.ok sc_is_letter (fun vs H Q E h => ?_) (fun cdv A outer s H vs Q E hr h => ?_)
  · obtain ⟨n, v, d, rfl, _⟩ := h
    rfl
  · obtain ⟨n, v, d, rfl, hd, q⟩ := h
    refine ⟨_, (pss_cons (ps_if (PW.pt (pw_or (pt_not (pt_val (pe_callB call_isiD (by rfl) m_isinstance (by decide +kernel) (pa_cons (pv 0) (pa_cons (pe_bltn (v := .ty "tuple") (u := .type "tuple") (by rfl) m_tuple (by decide +kernel) rfl) pa_nil))))) (pw_or (pt_cmpR op_notIn_seq (pe_callB call_len_seq (by rfl) m_len (by decide +kernel) (pa_cons (pv 0) pa_nil)) (pe_tup (pa_cons pe_int (pa_cons pe_int pa_nil))) (by rfl)) (pw_or1 (pt_not (pt_val (pe_callB call_isiD (by rfl) m_isinstance (by decide +kernel) (pa_cons (pe_ix ix_tup (pv 0) pe_int (fun _ _ => rfl)) (pa_cons (pe_bltn (v := .ty "str") (u := .type "str") (by rfl) m_str (by decide +kernel) rfl) pa_nil))))))))) (pss_one (ps_ret pe_bl)) pss_nil)
      (pss_cons (ps_if (pt_cmpR op_eq (pe_callB call_len_seq (by rfl) m_len (by decide +kernel) (pa_cons (pv 0) pa_nil)) pe_int (nomark _)) (pss_one (ps_ret (pe_and (pe_cmpR op_eq (pe_ix ix_tup (pv 0) pe_int (fun _ _ => rfl)) pe_str (nomark _)) (pe_one (pe_kn Wi hr (by omega) (pa_cons (pe_ix ix_tup (pv 0) pe_int (fun _ _ => rfl)) pa_nil)))))) pss_nil)
      (pss_cons (ps_asg (pv 0) (pg_tup rfl (pgs_cons (pg_name (i := 1) sc_is_letter.nd rfl (.inl rfl)) (pgs_cons (pg_name (i := 2) sc_is_letter.nd rfl (.inl rfl)) (pgs_cons (pg_name (i := 3) sc_is_letter.nd rfl (.inl rfl)) (pgs_cons (pg_name (i := 4) sc_is_letter.nd rfl (.inl rfl)) pgs_nil))))))
      (pss_cons (ps_if (PW.pt (pw_or (pt_cmpR op_notIn_seq (pv 1) (pe_tup (pa_cons pe_str (pa_cons pe_str pa_nil))) (by rfl)) (pw_or (pt_not (pt_val (pe_kn Co hr (by omega) (pa_cons (pv 2) pa_nil)))) (pw_or1 (pt_not (pt_val (pe_kn Co hr (by omega) (pa_cons (pv 3) pa_nil)))))))) (pss_one (ps_ret pe_bl)) pss_nil)
      (pss_one (ps_ret (pe_or (pe_cmpR op_isN (pv 4) pe_non (nomark _)) (pe_one (pe_kn Wi hr (by omega) (pa_cons (pv 4) pa_nil)))))))))), ?_⟩
    rcases tup_or d with ⟨ds, rfl⟩ | hn
    · cases hd with
      | tup e ha =>
      rename_i a xs
      have ll := ha.len
      have fl : [V.int 2, V.int 4].all flatV = true := by decide
      refine ⟨_, rfl, n, _, _, "tuple", _, rfl, .tup e ha, kit_tup _, _, rfl, iteF ⟨_, rfl, a, xs, rfl, .inr (.inl (.inl e)), (show 2 ≤ sizeLine by decide), fun t nt => ?_⟩⟩
      have st := same_new (o := HO.tup [V.int 2, V.int 4]) nt
      have e1 := st _ _ e
      have inV2 : inV (V.int xs.length) [V.int 2, V.int 4] = (decide (ds.length = 2) || decide (ds.length = 4)) := by
        rw [ll, inV_int2, Bool.eq_iff_iff]
        simp
        omega
      refine ⟨t, _, rfl, .inr (.inl (.inl upd_same)), rfl, fl, _, rfl, ite2 (fun c => ?_) (fun c => ?_)⟩
      · have c' : (!inV (V.int xs.length) [V.int 2, V.int 4]) = true := c
        rw [inV2] at c'
        simp at c'
        have : letterD (.tuple ds) = false := by simp [letterD, c'.1, c'.2]
        rw [this] at q
        exact q _ st
      · have c' : ¬ (!inV (V.int xs.length) [V.int 2, V.int 4]) = true := c
        rw [inV2] at c'
        simp at c'
        have h24 : ds.length = 2 ∨ ds.length = 4 := by omega
        have g0 : ∃ v0, xs[0]? = some v0 ∧ Da n H v0 (ds.getD 0 .none) := by
          have lt : 0 < xs.length := by omega
          obtain ⟨d0, e0, h0⟩ := ha.get 0 _ (List.getElem?_eq_getElem lt)
          exact ⟨_, List.getElem?_eq_getElem lt, by rw [List.getD_eq_getElem?_getD, e0]; exact h0⟩
        obtain ⟨v0, x0, h0⟩ := g0
        refine ⟨_, rfl, a, xs, 0, v0, rfl, rfl, .inl (.inl e1), atI_nat (j := 0) x0, n, v0, _, "str", _, rfl, h0.same st, kit_str _, _, rfl, ?_⟩
        have out : isStrD (ds.getD 0 .none) = false → letterD (.tuple ds) = false := fun h => by
          have a1 : ∀ z, strIs z (ds.getD 0 .none) = false := fun z => by
            cases hz : ds.getD 0 .none <;> first | rfl | (rw [hz] at h; cases h)
          simp only [letterD, a1, Bool.false_and, Bool.or_self, Bool.and_false]
          split <;> rfl
        cases hs : isStrD (ds.getD 0 .none) with
        | false =>
          rw [out hs] at q
          exact iteT (q _ st)
        | true =>
          refine iteF ?_
          obtain ⟨z, hz⟩ : ∃ z, ds.getD 0 .none = .str z := by
            cases hz : ds.getD 0 .none with
            | str z => exact ⟨z, rfl⟩
            | _ => rw [hz] at hs; cases hs
          rw [hz] at h0
          cases h0
          refine ⟨_, rfl, a, xs, rfl, .inr (.inl (.inl e1)), rfl, _, rfl, ite2 (fun c2 => ?_) (fun c2 => ?_)⟩
          · have l2 : ds.length = 2 := by
              have := of_decide_eq_true c2
              rw [ll] at this
              have := V.int.inj this
              omega
            match ds, l2, ha, hz with
            | [d0, d1], _, .cons h0 (.cons h1 .nil), hz =>
            rename_i w0 w1
            have hz' : d0 = .str z := hz
            subst hz'
            cases h0
            have eL : letterD (.tuple [.str z, d1]) = (decide (z = "word") && wishD d1) := by simp [letterD, strIs]
            rw [eL] at q
            refine ⟨_, rfl, a, _, 0, _, rfl, rfl, .inl (.inl e1), atI_nat (j := 0) rfl, rfl, _, rfl, ite2 (fun c3 => ?_) (fun c3 => ?_)⟩
            · have c3' : z = "word" := V.str.inj (of_decide_eq_true c3)
              rw [decide_eq_true c3', Bool.true_and] at q
              exact ⟨_, rfl, a, _, 1, _, rfl, rfl, .inl (.inl e1), atI_nat (j := 1) rfl, n, _, d1, rfl, h1.same st, fun H1 s1 => q H1 (st.trans s1)⟩
            · have c3' : ¬ z = "word" := fun hh => c3 (decide_eq_true (congrArg V.str hh))
              rw [decide_eq_false c3', Bool.false_and] at q
              exact q _ st
          · have l4 : ds.length = 4 := by
              rcases h24 with h | h
              · exfalso
                refine c2 (decide_eq_true ?_)
                rw [ll, h]
                rfl
              · exact h
            match ds, l4, ha, hz with
            | [d0, d1, d2, d3], _, .cons h0 (.cons h1 (.cons h2 (.cons h3 .nil))), hz =>
            rename_i w0 w1 w2 w3
            have hz' : d0 = .str z := hz
            subst hz'
            cases h0
            have eL : letterD (.tuple [.str z, d1, d2, d3]) = ((decide (z = "ask") || decide (z = "leave")) && ((countD d1 && countD d2) && (noneD d3 || wishD d3))) := by simp [letterD, strIs]
            rw [eL] at q
            refine ⟨_, rfl, a, _, rfl, .inl (.inl e1), rfl, _, _, rfl, _, _, rfl, _, _, rfl, _, _, rfl, rfl, ?_⟩
            refine ⟨_, rfl, (show 2 ≤ sizeLine by decide), fun t2 nt2 => ?_⟩
            have s2 := st.trans (same_new (o := HO.tup [V.str "ask", V.str "leave"]) nt2)
            have fl2 : [V.str "ask", V.str "leave"].all flatV = true := by decide
            have inS : inV (V.str z) [V.str "ask", V.str "leave"] = (decide (z = "ask") || decide (z = "leave")) := inV_str2 _ _ _
            refine ⟨t2, _, rfl, .inr (.inl (.inl upd_same)), rfl, fl2, _, rfl, ite2 (fun c3 => ?_) (fun c3 => ?_)⟩
            · have c3' : (!inV (V.str z) [V.str "ask", V.str "leave"]) = true := c3
              rw [inS] at c3'
              have c4 : (decide (z = "ask") || decide (z = "leave")) = false := by simpa using c3'
              rw [c4, Bool.false_and] at q
              exact q _ s2
            · have c3' : ¬ (!inV (V.str z) [V.str "ask", V.str "leave"]) = true := c3
              rw [inS] at c3'
              have c4 : (decide (z = "ask") || decide (z = "leave")) = true := by
                cases hh : (decide (z = "ask") || decide (z = "leave")) with
                | true => rfl
                | false => rw [hh] at c3'; exact absurd rfl c3'
              rw [c4, Bool.true_and] at q
              refine ⟨_, rfl, n, _, d1, rfl, h1.same s2, fun H3 s3 => ⟨_, rfl, ?_⟩⟩
              cases k1 : countD d1 with
              | false =>
                rw [k1, Bool.false_and, Bool.false_and] at q
                exact iteT (q _ (s2.trans s3))
              | true =>
                refine iteF ⟨_, rfl, n, _, d2, rfl, h2.same (s2.trans s3), fun H4 s4 => ⟨_, rfl, ?_⟩⟩
                have s04 := (s2.trans s3).trans s4
                rw [k1, Bool.true_and] at q
                cases k2 : countD d2 with
                | false =>
                  rw [k2, Bool.false_and] at q
                  exact iteT (q _ s04)
                | true =>
                  refine iteF ⟨_, rfl, rfl, _, rfl, ?_⟩
                  rw [k2, Bool.true_and] at q
                  cases h3 with
                  | non => exact iteT (q _ s04)
                  | bl b => exact iteF ⟨_, rfl, n, _, _, rfl, .bl b, fun H5 s5 => q H5 (s04.trans s5)⟩
                  | int i => exact iteF ⟨_, rfl, n, _, _, rfl, .int i, fun H5 s5 => q H5 (s04.trans s5)⟩
                  | str x => exact iteF ⟨_, rfl, n, _, _, rfl, .str x, fun H5 s5 => q H5 (s04.trans s5)⟩
                  | lst a1 a2 a3 a4 => exact iteF ⟨_, rfl, n, _, _, rfl, (Da.lst a1 a2 a3 a4).same s04, fun H5 s5 => q H5 (s04.trans s5)⟩
                  | tup a1 a2 => exact iteF ⟨_, rfl, n, _, _, rfl, (Da.tup a1 a2).same s04, fun H5 s5 => q H5 (s04.trans s5)⟩
                  | dct a1 a2 => exact iteF ⟨_, rfl, n, _, _, rfl, (Da.dct a1 a2).same s04, fun H5 s5 => q H5 (s04.trans s5)⟩
    · have t := (not_tup hn).2.1
      refine ⟨_, rfl, n, _, d, "tuple", _, rfl, hd, kit_tup d, _, rfl, ?_⟩
      rw [hn]
      rw [t] at q
      exact iteT (q H (Same.refl H))
end
end K64

set_option Elab.async false
set_option linter.all false
set_option maxRecDepth 100000
namespace K64
open PySem PySem.Spec PyProof.Rows L2 NB

abbrev Wi := Int × List Int
def WiP (w : Wi) : Prop := 1 ≤ w.1 ∧ w.1 < 10 ^ 30 ∧ w.2 ≠ [] ∧ w.2.length ≤ 12 ∧ Pl w.2
def WV (H : Hp) (v : V) : Option Wi → Prop
  | none => v = .non
  | some w => ∃ p q, v = .ref p ∧ H p = some (.tup [.int w.1, .ref q]) ∧ H q = some (.tup (w.2.map V.int))
theorem WV.keep {H H' : Hp} {v : V} : ∀ {o : Option Wi}, WV H v o → Keep H H' → WV H' v o
  | none, h, _ => h
  | some w, ⟨p, q, e, e1, e2⟩, k => ⟨p, q, e, k.tup e1, k.tup e2⟩
abbrev Lt := Str × List Int × Option Wi
def LetAt (H : Hp) (p : Addr) (l : Lt) : Prop := ∃ v, H p = some (.tup (.str l.1 :: (l.2.1.map V.int ++ [v]))) ∧ WV H v l.2.2
theorem LetAt.keep {H H' : Hp} {p : Addr} {l : Lt} (h : LetAt H p l) (k : Keep H H') : LetAt H' p l := by
  obtain ⟨v, e, w⟩ := h
  exact ⟨v, k.tup e, w.keep k⟩
def LetP (l : Lt) : Prop := (((l.1 = "ask" ∨ l.1 = "leave") ∧ l.2.1.length = 2) ∨ (l.1 = "word" ∧ l.2.1 = [] ∧ l.2.2 ≠ none)) ∧ Pl l.2.1 ∧ ∀ w, l.2.2 = some w → WiP w
theorem LetP.few {l : Lt} (h : LetP l) : l.2.1.length ≤ 2 := by
  rcases h.1 with ⟨_, e⟩ | ⟨_, e, _⟩
  · omega
  · rw [e]; exact Nat.zero_le _
theorem LetP.word {l : Lt} (h : LetP l) : l.1 = "ask" ∨ l.1 = "leave" ∨ l.1 = "word" := by
  rcases h.1 with ⟨e | e, _⟩ | ⟨e, _⟩
  · exact .inl e
  · exact .inr (.inl e)
  · exact .inr (.inr e)
def wiD : Option Wi → PyData
  | none => .none
  | some w => .tuple [.int w.1, .tuple (w.2.map PyData.int)]
def ltD (l : Lt) : PyData := .tuple ((.str l.1 :: l.2.1.map PyData.int) ++ [wiD l.2.2])
theorem da_ints {n : Addr} {H : Hp} : ∀ xs : List Int, DaAll n H (xs.map V.int) (xs.map PyData.int)
  | [] => .nil
  | x :: xs => .cons (.int x) (da_ints xs)
theorem da_app {n : Addr} {H : Hp} : ∀ {xs : List V} {ds : List PyData} {v : V} {d : PyData}, DaAll n H xs ds → Da n H v d → DaAll n H (xs ++ [v]) (ds ++ [d])
  | [], _, _, _, .nil, h => .cons h .nil
  | _ :: _, _, _, _, .cons h1 h2, h => .cons h1 (da_app h2 h)
theorem da_wish {n : Addr} {H : Hp} {v : V} : ∀ {o : Option Wi}, WV H v o → Da n H v (wiD o)
  | none, h => by
    have e : v = .non := h
    rw [e]
    exact .non
  | some w, ⟨p, q, e, e1, e2⟩ => by
    rw [e]
    exact .tup e1 (.cons (.int _) (.cons (.tup e2 (da_ints _)) .nil))
theorem da_let {n : Addr} {H : Hp} {p : Addr} {l : Lt} (h : LetAt H p l) : Da n H (.ref p) (ltD l) := by
  obtain ⟨v, e, w⟩ := h
  exact .tup e (da_app (xs := .str l.1 :: l.2.1.map V.int) (.cons (.str _) (da_ints _)) (da_wish w))
theorem count_ints {xs : List Int} (h : Pl xs) : (xs.map PyData.int).all countD = true := by
  rw [List.all_eq_true]
  intro d hd
  obtain ⟨x, hx, rfl⟩ := List.mem_map.mp hd
  exact decide_eq_true (h x hx).1
theorem wish_isD {w : Wi} (h : WiP w) : wishD (wiD (some w)) = true := by
  show (decide (2 = 2) && (decide (1 ≤ w.1) && ((decide (1 ≤ (w.2.map PyData.int).length) && decide ((w.2.map PyData.int).length ≤ 12)) && (w.2.map PyData.int).all countD))) = true
  have l1 : 1 ≤ w.2.length := List.length_pos_iff.mpr h.2.2.1
  rw [count_ints h.2.2.2.2, List.length_map, decide_eq_true h.1, decide_eq_true l1, decide_eq_true h.2.2.2.1]
  rfl
theorem let_isD {l : Lt} (h : LetP l) : letterD (ltD l) = true := by
  obtain ⟨a, ns, o⟩ := l
  rcases h.1 with ⟨hw, h2⟩ | ⟨hw, h0, hn⟩
  · match ns, h2, h with
    | [i, j], _, h =>
    have hi := h.2.1 i (by simp)
    have hj := h.2.1 j (by simp)
    show (if (4 : Nat) = 2 then (strIs "word" (PyData.str a) && wishD (PyData.int i)) else decide ((4 : Nat) = 4) && ((decide (a = "ask") || decide (a = "leave")) && ((decide (0 ≤ i) && decide (0 ≤ j)) && (noneD (wiD o) || wishD (wiD o))))) = true
    rw [if_neg (by decide), decide_eq_true hi.1, decide_eq_true hj.1]
    have ho : (noneD (wiD o) || wishD (wiD o)) = true := by
      cases o with
      | none => rfl
      | some w => rw [wish_isD (h.2.2 w rfl), Bool.or_true]
    rw [ho]
    rcases hw with e | e
    · have e' : a = "ask" := e
      rw [e']; decide +kernel
    · have e' : a = "leave" := e
      rw [e']; decide +kernel
  · have e0 : ns = [] := h0
    subst e0
    have ea : a = "word" := hw
    cases o with
    | none => exact absurd rfl hn
    | some w =>
      show (decide (a = "word") && wishD (wiD (some w))) = true
      rw [wish_isD (h.2.2 w rfl), decide_eq_true ea]
      rfl
theorem dp_app {K : PySem.W.Frag} {H : Hp} : ∀ {xs : List V} {ds : List PyData} {v : V} {d : PyData}, DpAll K H xs ds → Dp K H v d → DpAll K H (xs ++ [v]) (ds ++ [d])
  | [], _, _, _, .nil, h => .cons h .nil
  | _ :: _, _, _, _, .cons h1 h2, h => .cons h1 (dp_app h2 h)
theorem dp_wish {K : PySem.W.Frag} {H : Hp} {v : V} : ∀ {o : Option Wi}, WV H v o → Dp K H v (wiD o)
  | none, h => by
    have e : v = .non := h
    rw [e]
    exact .non
  | some w, ⟨p, q, e, e1, e2⟩ => by
    rw [e]
    exact .tup (.inl (.inl e1)) (.cons (.int _) (.cons (.tup (.inl (.inl e2)) (dp_ints _)) .nil))
theorem dp_let {K : PySem.W.Frag} {H : Hp} {p : Addr} {l : Lt} (h : LetAt H p l) : Dp K H (.ref p) (ltD l) := by
  obtain ⟨v, e, w⟩ := h
  exact .tup (.inl (.inl e)) (dp_app (xs := .str l.1 :: l.2.1.map V.int) (.cons (.str _) (dp_ints _)) (dp_wish w))
end K64

set_option Elab.async false
set_option linter.all false
set_option maxRecDepth 100000
namespace K64
open PySem PySem.Spec PyProof.Rows L2 NB

/-! ### rules of a hand -/
def shrd (q : Rl) : Bool := decide (q.1.1 ≠ q.2.1)
def ownS (q : Rl) (i : Nat) : Sd := if q.1.1 = i then q.1 else q.2
def othT (q : Rl) (i : Nat) : Nat := if q.1.1 = i then q.2.1 else q.1.1
def outS (s : Sd) (lo hi : Int) : Int × Int := if s.2.1 then (lo, if s.2.2 - 1 < hi then s.2.2 - 1 else hi) else (if s.2.2 + 1 > lo then s.2.2 + 1 else lo, hi)
def outB (s : Sd) (p : Int) : Bool := decide ((outS s p p).1 ≤ (outS s p p).2)
def wishN (o : Option Wi) : Int := match o with
  | none => 0
  | some w => w.1
def spShrd : Sp := fun vs H Q _ => ∃ (r : Addr) (rl : Rl), vs = [.ref r] ∧ RuleAt H r rl ∧ Q (.bl (shrd rl)) H
def spOwnS : Sp := fun vs H Q _ => ∃ (r : Addr) (rl : Rl) (i : Nat), vs = [.ref r, .int (i : Int)] ∧ RuleAt H r rl ∧ ∀ p, SideAt H p (ownS rl i) → Q (.ref p) H
def spOthT : Sp := fun vs H Q _ => ∃ (r : Addr) (rl : Rl) (i : Nat), vs = [.ref r, .int (i : Int)] ∧ RuleAt H r rl ∧ Q (.int (othT rl i : Nat)) H
def spOutS : Sp := fun vs H Q _ => ∃ (p : Addr) (sd : Sd) (lo hi : Int), vs = [.ref p, .int lo, .int hi] ∧ SideAt H p sd ∧ ∀ H' g, Same H H' → H' g = some (.tup [.int (outS sd lo hi).1, .int (outS sd lo hi).2]) → Q (.ref g) H'
def spOutB : Sp := fun vs H Q _ => ∃ (p : Addr) (sd : Sd) (pl : Int), vs = [.ref p, .int pl] ∧ SideAt H p sd ∧ ∀ H', Same H H' → Q (.bl (outB sd pl)) H'
def spWishN : Sp := fun vs H Q _ => ∃ (v : V) (o : Option Wi), vs = [v] ∧ WV H v o ∧ Q (.int (wishN o)) H
section
variable {P : Program} {w : World} {K : PySem.W.Frag} {mg : Str → Option Value} {base : Heap}
abbrev a_wish_number : Stmt := topS 11
abbrev n_wish_number : List Str := ["wish"]
theorem sc_wish_number : FnScope n_wish_number ["wish"] (defScope a_wish_number) := ⟨rfl, rfl, rfl, by decide +kernel, rfl, by decide +kernel, by decide +kernel⟩
set_option maxHeartbeats 8000000 in
theorem ok_wish_number {f  : Addr} {fd  : FuncData} {k : Nat}  (F : Fun K "wish_number" "wish_number" a_wish_number f fd)    : FnOk P w K mg base CX0 (k + 1) f fd ["wish"] spWishN := by
  refine F.ok sc_wish_number (fun vs H Q E h => ?_) (fun cdv A outer s H vs Q E hr h => ?_)
  · obtain ⟨v, o, rfl, _⟩ := h
    rfl
  · obtain ⟨v, o, rfl, hv, q⟩ := h
    refine ⟨_, (pss_one (ps_ret (pe_ifExp (pt_cmpR op_isN (pv 0) pe_non (nomark _)) pe_int (pe_ix ix_tup (pv 0) pe_int (fun _ _ => rfl))))), ?_⟩
    cases o with
    | none =>
      obtain rfl : v = .non := hv
      exact ⟨_, rfl, rfl, true, congrArg V.bl (decide_eq_true rfl), iteT q⟩
    | some w =>
      obtain ⟨p, g, rfl, ep, eg⟩ := hv
      exact ⟨_, rfl, rfl, false, congrArg V.bl (decide_eq_false (fun z => by cases z)), iteF ⟨.ref p, rfl, p, _, 0, _, rfl, rfl, .inl (.inl ep), atI_nat (j := 0) rfl, q⟩⟩
abbrev a_is_shared : Stmt := topS 13
abbrev n_is_shared : List Str := ["rule"]
theorem sc_is_shared : FnScope n_is_shared ["rule"] (defScope a_is_shared) := ⟨rfl, rfl, rfl, by decide +kernel, rfl, by decide +kernel, by decide +kernel⟩
set_option maxHeartbeats 8000000 in
theorem ok_is_shared {f  : Addr} {fd  : FuncData} {k : Nat}  (F : Fun K "is_shared" "is_shared" a_is_shared f fd)    : FnOk P w K mg base CX0 (k + 1) f fd ["rule"] spShrd := by
  refine F.ok sc_is_shared (fun vs H Q E h => ?_) (fun cdv A outer s H vs Q E hr h => ?_)
  · obtain ⟨r, rl, rfl, _⟩ := h
    rfl
  · obtain ⟨r, rl, rfl, hr1, q⟩ := h
    refine ⟨_, (pss_one (ps_ret (pe_cmpR op_ne (pe_ix ix_tup (pe_ix ix_tup (pv 0) pe_int (fun _ _ => rfl)) pe_int (fun _ _ => rfl)) (pe_ix ix_tup (pe_ix ix_tup (pv 0) pe_int (fun _ _ => rfl)) pe_int (fun _ _ => rfl)) (nomark _)))), ?_⟩
    obtain ⟨p1, p2, er, s1, s2⟩ := hr1
    have s1' : H p1 = some (.tup [.int (rl.1.1 : Int), .str (word rl.1.2.1), .int rl.1.2.2]) := s1
    have s2' : H p2 = some (.tup [.int (rl.2.1 : Int), .str (word rl.2.2.1), .int rl.2.2.2]) := s2
    refine ⟨.ref r, rfl, r, _, 0, .ref p1, rfl, rfl, .inl (.inl er), atI_nat (j := 0) rfl, p1, _, 0, _, rfl, rfl, .inl (.inl s1'), atI_nat (j := 0) rfl, .ref r, rfl, r, _, 1, .ref p2, rfl, rfl, .inl (.inl er), atI_nat (j := 1) rfl, p2, _, 0, _, rfl, rfl, .inl (.inl s2'), atI_nat (j := 0) rfl, rfl, ?_⟩
    have e : (!decide (V.int (rl.1.1 : Int) = V.int (rl.2.1 : Int))) = shrd rl := by
      unfold shrd
      by_cases h : rl.1.1 = rl.2.1
      · rw [h]; simp
      · have : ¬ V.int (rl.1.1 : Int) = V.int (rl.2.1 : Int) := fun z => h (by injection z with z; omega)
        simp [this, h]
    rw [e]
    exact q
abbrev a_own_side : Stmt := topS 14
abbrev n_own_side : List Str := ["rule", "thing"]
theorem sc_own_side : FnScope n_own_side ["rule", "thing"] (defScope a_own_side) := ⟨rfl, rfl, rfl, by decide +kernel, rfl, by decide +kernel, by decide +kernel⟩
set_option maxHeartbeats 8000000 in
theorem ok_own_side {f  : Addr} {fd  : FuncData} {k : Nat}  (F : Fun K "own_side" "own_side" a_own_side f fd)    : FnOk P w K mg base CX0 (k + 1) f fd ["rule", "thing"] spOwnS := by
  refine F.ok sc_own_side (fun vs H Q E h => ?_) (fun cdv A outer s H vs Q E hr h => ?_)
  · obtain ⟨r, rl, i, rfl, _⟩ := h
    rfl
  · obtain ⟨r, rl, i, rfl, hr1, q⟩ := h
    refine ⟨_, (pss_one (ps_ret (pe_ifExp (pt_cmpR op_eq (pe_ix ix_tup (pe_ix ix_tup (pv 0) pe_int (fun _ _ => rfl)) pe_int (fun _ _ => rfl)) (pv 1) (nomark _)) (pe_ix ix_tup (pv 0) pe_int (fun _ _ => rfl)) (pe_ix ix_tup (pv 0) pe_int (fun _ _ => rfl))))), ?_⟩
    obtain ⟨p1, p2, er, s1, s2⟩ := hr1
    have s1' : H p1 = some (.tup [.int (rl.1.1 : Int), .str (word rl.1.2.1), .int rl.1.2.2]) := s1
    refine ⟨.ref r, rfl, r, _, 0, .ref p1, rfl, rfl, .inl (.inl er), atI_nat (j := 0) rfl, p1, _, 0, _, rfl, rfl, .inl (.inl s1'), atI_nat (j := 0) rfl, _, rfl, rfl, ?_⟩
    by_cases h : rl.1.1 = i
    · have o := q p1 (by unfold ownS; rw [if_pos h]; exact s1)
      exact ⟨true, congrArg V.bl (decide_eq_true (by rw [h])), iteT ⟨.ref r, rfl, r, _, 0, .ref p1, rfl, rfl, .inl (.inl er), atI_nat (j := 0) rfl, o⟩⟩
    · have o := q p2 (by unfold ownS; rw [if_neg h]; exact s2)
      exact ⟨false, congrArg V.bl (decide_eq_false (fun z => h (by injection z with z; omega))), iteF ⟨.ref r, rfl, r, _, 1, .ref p2, rfl, rfl, .inl (.inl er), atI_nat (j := 1) rfl, o⟩⟩
abbrev a_other_thing : Stmt := topS 15
abbrev n_other_thing : List Str := ["rule", "thing"]
theorem sc_other_thing : FnScope n_other_thing ["rule", "thing"] (defScope a_other_thing) := ⟨rfl, rfl, rfl, by decide +kernel, rfl, by decide +kernel, by decide +kernel⟩
set_option maxHeartbeats 8000000 in
theorem ok_other_thing {f  : Addr} {fd  : FuncData} {k : Nat}  (F : Fun K "other_thing" "other_thing" a_other_thing f fd)    : FnOk P w K mg base CX0 (k + 1) f fd ["rule", "thing"] spOthT := by
  refine F.ok sc_other_thing (fun vs H Q E h => ?_) (fun cdv A outer s H vs Q E hr h => ?_)
  · obtain ⟨r, rl, i, rfl, _⟩ := h
    rfl
  · obtain ⟨r, rl, i, rfl, hr1, q⟩ := h
    refine ⟨_, (pss_one (ps_ret (pe_ifExp (pt_cmpR op_eq (pe_ix ix_tup (pe_ix ix_tup (pv 0) pe_int (fun _ _ => rfl)) pe_int (fun _ _ => rfl)) (pv 1) (nomark _)) (pe_ix ix_tup (pe_ix ix_tup (pv 0) pe_int (fun _ _ => rfl)) pe_int (fun _ _ => rfl)) (pe_ix ix_tup (pe_ix ix_tup (pv 0) pe_int (fun _ _ => rfl)) pe_int (fun _ _ => rfl))))), ?_⟩
    obtain ⟨p1, p2, er, s1, s2⟩ := hr1
    have s1' : H p1 = some (.tup [.int (rl.1.1 : Int), .str (word rl.1.2.1), .int rl.1.2.2]) := s1
    have s2' : H p2 = some (.tup [.int (rl.2.1 : Int), .str (word rl.2.2.1), .int rl.2.2.2]) := s2
    refine ⟨.ref r, rfl, r, _, 0, .ref p1, rfl, rfl, .inl (.inl er), atI_nat (j := 0) rfl, p1, _, 0, _, rfl, rfl, .inl (.inl s1'), atI_nat (j := 0) rfl, _, rfl, rfl, ?_⟩
    unfold othT at q
    by_cases h : rl.1.1 = i
    · rw [if_pos h] at q
      exact ⟨true, congrArg V.bl (decide_eq_true (by rw [h])), iteT ⟨.ref r, rfl, r, _, 1, .ref p2, rfl, rfl, .inl (.inl er), atI_nat (j := 1) rfl, p2, _, 0, _, rfl, rfl, .inl (.inl s2'), atI_nat (j := 0) rfl, q⟩⟩
    · rw [if_neg h] at q
      exact ⟨false, congrArg V.bl (decide_eq_false (fun z => h (by injection z with z; omega))), iteF ⟨.ref r, rfl, r, _, 0, .ref p1, rfl, rfl, .inl (.inl er), atI_nat (j := 0) rfl, p1, _, 0, _, rfl, rfl, .inl (.inl s1'), atI_nat (j := 0) rfl, q⟩⟩
abbrev a_out_span : Stmt := topS 16
abbrev n_out_span : List Str := ["side", "low", "high", "word", "place"]
theorem sc_out_span : FnScope n_out_span ["side", "low", "high"] (defScope a_out_span) := ⟨rfl, rfl, rfl, by decide +kernel, rfl, by decide +kernel, by decide +kernel⟩
set_option maxHeartbeats 8000000 in
theorem ok_out_span {f  : Addr} {fd  : FuncData} {k : Nat}  (F : Fun K "out_span" "out_span" a_out_span f fd)   (m_max : mg "max" = none) (m_min : mg "min" = none) : FnOk P w K mg base CX0 (k + 1) f fd ["side", "low", "high"] spOutS := by
  refine F.ok sc_out_span (fun vs H Q E h => ?_) (fun cdv A outer s H vs Q E hr h => ?_)
  · obtain ⟨p, sd, lo, hi, rfl, _⟩ := h
    rfl
  · obtain ⟨p, sd, lo, hi, rfl, es, q⟩ := h
    refine ⟨_, (pss_cons (ps_par (i := 3) (j := 4) (by rfl) sc_out_span.nd rfl rfl (by decide) rfl rfl (pa_cons (pe_ix ix_tup (pv 0) pe_int (fun _ _ => rfl)) (pa_cons (pe_ix ix_tup (pv 0) pe_int (fun _ _ => rfl)) pa_nil)) (by rfl))
      (pss_cons (ps_if (pt_cmpR op_eq (pv 3) pe_str (nomark _)) (pss_one (ps_ret (pe_tup (pa_cons (pv 1) (pa_cons (pe_callB (call_min2 rfl) (by rfl) m_min (by decide +kernel) (pa_cons (pv 2) (pa_cons (pe_op op_sub (pv 4) pe_int) pa_nil))) pa_nil))))) pss_nil)
      (pss_one (ps_ret (pe_tup (pa_cons (pe_callB (call_max2 rfl) (by rfl) m_max (by decide +kernel) (pa_cons (pv 1) (pa_cons (pe_op op_add (pv 4) pe_int) pa_nil))) (pa_cons (pv 2) pa_nil))))))), ?_⟩
    have es' : H p = some (.tup [.int (sd.1 : Int), .str (word sd.2.1), .int sd.2.2]) := es
    unfold outS at q
    refine ⟨.ref p, rfl, p, _, 1, _, rfl, rfl, .inl (.inl es'), atI_nat (j := 1) rfl, .ref p, rfl, p, _, 2, _, rfl, rfl, .inl (.inl es'), atI_nat (j := 2) rfl, _, _, rfl, ?_⟩
    dsimp only [List.set]
    obtain ⟨n, b, pl⟩ := sd
    refine ⟨_, rfl, rfl, b, ?_, ?_⟩
    · show V.bl (decide (V.str (word b) = V.str "from")) = V.bl b
      cases b <;> decide +kernel
    · cases b with
      | true =>
        refine iteT ⟨_, rfl, _, rfl, _, rfl, pl, 1, rfl, rfl, hi, pl - 1, rfl, (show 2 ≤ sizeLine by decide), fun g ng => ?_⟩
        exact q _ g (same_new ng) upd_same
      | false =>
        refine iteF ⟨_, rfl, _, rfl, pl, 1, rfl, rfl, lo, pl + 1, rfl, _, rfl, (show 2 ≤ sizeLine by decide), fun g ng => ?_⟩
        exact q _ g (same_new ng) upd_same
abbrev a_is_out_at : Stmt := topS 17
abbrev n_is_out_at : List Str := ["side", "place", "least", "most"]
theorem sc_is_out_at : FnScope n_is_out_at ["side", "place"] (defScope a_is_out_at) := ⟨rfl, rfl, rfl, by decide +kernel, rfl, by decide +kernel, by decide +kernel⟩
set_option maxHeartbeats 8000000 in
theorem ok_is_out_at {f fOs : Addr} {fd fdOs : FuncData} {k : Nat}  (F : Fun K "is_out_at" "is_out_at" a_is_out_at f fd) (Os : Kn P w K mg base 1 "out_span" ["side", "low", "high"] spOutS fOs fdOs)   : FnOk P w K mg base CX0 (k + 2) f fd ["side", "place"] spOutB := by
  refine F.ok sc_is_out_at (fun vs H Q E h => ?_) (fun cdv A outer s H vs Q E hr h => ?_)
  · obtain ⟨p, sd, pl, rfl, _⟩ := h
    rfl
  · obtain ⟨p, sd, pl, rfl, es, q⟩ := h
    refine ⟨_, (pss_cons (ps_asg (pe_kn Os hr (by omega) (pa_cons (pv 0) (pa_cons (pv 1) (pa_cons (pv 1) pa_nil)))) (pg_tup rfl (pgs_cons (pg_name (i := 2) sc_is_out_at.nd rfl (.inl rfl)) (pgs_cons (pg_name (i := 3) sc_is_out_at.nd rfl (.inl rfl)) pgs_nil))))
      (pss_one (ps_ret (pe_cmpR op_le (pv 2) (pv 3) (nomark _))))), ?_⟩
    refine ⟨_, rfl, _, rfl, _, rfl, p, sd, pl, pl, rfl, es, fun H1 g s1 eg => ?_⟩
    refine ⟨g, _, rfl, .inl (.inl eg), rfl, _, _, rfl, _, _, rfl, rfl, ?_⟩
    exact ⟨_, rfl, _, rfl, _, _, rfl, rfl, q H1 s1⟩
end
end K64

set_option Elab.async false
set_option linter.all false
set_option maxRecDepth 100000
/-! d[k] op= v: what is read. -/
namespace NB
open PySem PySem.Spec PyProof.Rows L2
theorem get_dictK {X : Cx} (hu : X.A.units + 1 < cLine) : PGet X (fun x y H Q => ∃ a v, x = .ref a ∧ DGet H a y (some v) ∧ Q v H) := by
  intro pins s σ H o i ov iv Q I ro ri h
  obtain ⟨a, v, rfl, g, q⟩ := h
  cases ro
  exact d_getItem hu I g ri fun w' s' I' r => ⟨v, H, I', r, q⟩
end NB

set_option Elab.async false
set_option linter.all false
set_option maxRecDepth 100000
namespace K64
open PySem PySem.Spec PyProof.Rows L2 NB

/-! ### a hand -/
structure Hd where
  thing : Nat
  place : Int
  wish : Option Wi
  rows : List (Int × Rl × Int)
def look (rows : List (Int × Rl × Int)) (n : Int) : Option (Rl × Int) := (rows.find? fun r => decide (r.1 = n)).map (·.2)
def kvT (rows : List (Int × Rl × Int)) : List (Key × V) := rows.map fun r => (Sum.inl r.1, V.int r.2.2)
def kvH (hs : List (Int × Addr)) : List (Key × V) := hs.map fun z => (Sum.inl z.1, V.ref z.2)
def Held (H : Hp) : List (Int × Addr) → List (Int × Rl × Int) → Prop
  | [], [] => True
  | z :: hs, r :: rows => z.1 = r.1 ∧ RuleAt H z.2 r.2.1 ∧ Held H hs rows
  | _, _ => False
theorem Held.keep {H H' : Hp} (k : Keep H H') : ∀ {hs : List (Int × Addr)} {rows : List (Int × Rl × Int)}, Held H hs rows → Held H' hs rows
  | [], [], _ => trivial
  | _ :: _, _ :: _, ⟨a, b, c⟩ => ⟨a, b.keep k, c.keep k⟩
  | [], _ :: _, h => h.elim
  | _ :: _, [], h => h.elim
theorem Held.keys {H : Hp} : ∀ {hs : List (Int × Addr)} {rows : List (Int × Rl × Int)}, Held H hs rows → hs.map (·.1) = rows.map (·.1)
  | [], [], _ => rfl
  | z :: hs, r :: rows, ⟨a, _, c⟩ => by rw [List.map_cons, List.map_cons, a, c.keys]
  | [], _ :: _, h => h.elim
  | _ :: _, [], h => h.elim
theorem look_cons (r : Int × Rl × Int) (rows : List (Int × Rl × Int)) (n : Int) : look (r :: rows) n = if r.1 = n then some r.2 else look rows n := by
  unfold look
  rw [List.find?_cons]
  by_cases h : r.1 = n
  · simp [h]
  · simp [h]
theorem valT (rows : List (Int × Rl × Int)) (n : Int) : valV (kvT rows) (Sum.inl n) = (look rows n).map fun z => V.int z.2 := by
  induction rows with
  | nil => rfl
  | cons r rows ih =>
    rw [look_cons]
    unfold kvT valV at ih ⊢
    rw [List.map_cons, List.find?_cons]
    by_cases h : r.1 = n
    · simp [h]
    · have : ¬ ((Sum.inl r.1 : Key) = Sum.inl n) := fun z => h (Sum.inl.inj z)
      simp only [this, h, decide_false, if_false]
      exact ih
theorem valH {H : Hp} (n : Int) : ∀ {hs : List (Int × Addr)} {rows : List (Int × Rl × Int)}, Held H hs rows →
    (look rows n = none ∧ valV (kvH hs) (Sum.inl n) = none) ∨ ∃ q c a, look rows n = some (q, c) ∧ valV (kvH hs) (Sum.inl n) = some (V.ref a) ∧ RuleAt H a q
  | [], [], _ => .inl ⟨rfl, rfl⟩
  | z :: hs, r :: rows, ⟨a, b, c⟩ => by
    have ih := valH n c
    have e : valV (kvH (z :: hs)) (Sum.inl n) = if r.1 = n then some (V.ref z.2) else valV (kvH hs) (Sum.inl n) := by
      unfold kvH valV
      rw [List.map_cons, List.find?_cons]
      by_cases h : r.1 = n
      · simp [h, a]
      · have : ¬ ((Sum.inl z.1 : Key) = Sum.inl n) := fun w => h (a ▸ Sum.inl.inj w)
        simp only [this, h, decide_false, if_false]
    rw [look_cons, e]
    by_cases h : r.1 = n
    · rw [if_pos h, if_pos h]
      exact .inr ⟨r.2.1, r.2.2, z.2, rfl, rfl, b⟩
    · rw [if_neg h, if_neg h]
      exact ih
  | [], _ :: _, h => h.elim
  | _ :: _, [], h => h.elim
theorem rs {H H' : Hp} {a : Addr} {u : HO} (s : Same H H') (e : Rd H a u) : Rd H' a u := by
  rcases e with e | ⟨od, e⟩
  · exact .inl (s _ _ e)
  · exact .inr ⟨od, s _ _ e⟩
theorem DGr {H : Hp} {a : Addr} {kvs : List (Key × V)} {k : Key} (e : Rd H a (.dK kvs)) : DGet H a (kV k) (valV kvs k) := .inl ⟨kvs, k, e, rfl, rfl⟩
theorem ru {H : Hp} {a b : Addr} {u o : HO} (n : a ≠ b) (e : Rd H a u) : Rd (upd H b o) a u := by
  rcases e with e | ⟨od, e⟩
  · exact .inl ((upd_ne n).trans e)
  · exact .inr ⟨od, (upd_ne n).trans e⟩
theorem rn {H : Hp} {a b C dx : Addr} {kvs : List (Key × V)} {fs : List (Str × V)} (e : Rd H a (.dK kvs)) (i : H b = some (.ins C dx fs)) : a ≠ b := fun z => by
  rcases e with e | ⟨od, e⟩ <;> (rw [z, i] at e; cases e)
def HandF (C : Addr) (H : Hp) (x dx : Addr) (v : V) (D T : Addr) (h : Hd) : Prop := H x = some (.ins C dx [("thing", .int (h.thing : Int)), ("place", .int h.place), ("wish", v), ("held", .ref D), ("tally", .ref T)])
def HandAt (C : Addr) (H : Hp) (x D T : Addr) (h : Hd) : Prop := ∃ dx v hs, HandF C H x dx v D T h ∧ WV H v h.wish ∧ Rd H D (.dK (kvH hs)) ∧ H T = some (.dK (kvT h.rows)) ∧ Held H hs h.rows
theorem HandAt.same {C : Addr} {H H' : Hp} {x D T : Addr} {h : Hd} (a : HandAt C H x D T h) (s : Same H H') : HandAt C H' x D T h := by
  obtain ⟨dx, v, hs, e, w, d, t, l⟩ := a
  exact ⟨dx, v, hs, s _ _ e, w.keep (.same s), rs s d, s _ _ t, l.keep (.same s)⟩
structure HandTxt (K : PySem.W.Frag) (C : Addr) : Prop where
  cl : Cls K C
  n1 : NoAttr K C "thing"
  n2 : NoAttr K C "place"
  n3 : NoAttr K C "wish"
  n4 : NoAttr K C "held"
  n5 : NoAttr K C "tally"
section
variable {i p v d t : V}
theorem lk1 : ([("thing", i), ("place", p), ("wish", v), ("held", d), ("tally", t)] : List (Str × V)).lookup ("thing" : Str) = some i := by
  simp [List.lookup]
theorem lk2 : ([("thing", i), ("place", p), ("wish", v), ("held", d), ("tally", t)] : List (Str × V)).lookup ("place" : Str) = some p := by
  have n1 : (("place" : Str) == "thing") = false := by decide +kernel
  simp [List.lookup, n1]
theorem lk3 : ([("thing", i), ("place", p), ("wish", v), ("held", d), ("tally", t)] : List (Str × V)).lookup ("wish" : Str) = some v := by
  have n1 : (("wish" : Str) == "thing") = false := by decide +kernel
  have n2 : (("wish" : Str) == "place") = false := by decide +kernel
  simp [List.lookup, n1, n2]
theorem lk4 : ([("thing", i), ("place", p), ("wish", v), ("held", d), ("tally", t)] : List (Str × V)).lookup ("held" : Str) = some d := by
  have n1 : (("held" : Str) == "thing") = false := by decide +kernel
  have n2 : (("held" : Str) == "place") = false := by decide +kernel
  have n3 : (("held" : Str) == "wish") = false := by decide +kernel
  simp [List.lookup, n1, n2, n3]
theorem lk5 : ([("thing", i), ("place", p), ("wish", v), ("held", d), ("tally", t)] : List (Str × V)).lookup ("tally" : Str) = some t := by
  have n1 : (("tally" : Str) == "thing") = false := by decide +kernel
  have n2 : (("tally" : Str) == "place") = false := by decide +kernel
  have n3 : (("tally" : Str) == "wish") = false := by decide +kernel
  have n4 : (("tally" : Str) == "held") = false := by decide +kernel
  simp [List.lookup, n1, n2, n3, n4]
theorem lkm {m : Str} (h1 : (m == "thing") = false := by decide +kernel) (h2 : (m == "place") = false := by decide +kernel) (h3 : (m == "wish") = false := by decide +kernel) (h4 : (m == "held") = false := by decide +kernel) (h5 : (m == "tally") = false := by decide +kernel) :
    ([("thing", i), ("place", p), ("wish", v), ("held", d), ("tally", t)] : List (Str × V)).lookup m = none := by
  simp [List.lookup, h1, h2, h3, h4, h5]
end
def Hd.shares (h : Hd) (n : Int) : Bool := match look h.rows n with
  | some z => shrd z.1
  | none => false
def leaveB (i : Nat) (q : Rl) (c : Int) : Bool := decide (c % 2 = 0) == decide (q.1.1 = i)
def Hd.goal (h : Hd) : Int := match h.wish with
  | none => h.place
  | some w => w.2.getD h.thing 0
def spShares (C : Addr) : Sp := fun vs H Q _ => ∃ (x D T : Addr) (h : Hd) (n : Int), vs = [.ref x, .int n] ∧ HandAt C H x D T h ∧ ∀ H', Same H H' → Q (.bl (h.shares n)) H'
def spCount (C : Addr) : Sp := fun vs H Q _ => ∃ (x D T : Addr) (h : Hd) (n : Int) (rl : Rl) (c : Int), vs = [.ref x, .int n] ∧ HandAt C H x D T h ∧ look h.rows n = some (rl, c) ∧ shrd rl = true ∧ ∀ H', Same H H' → Q (.int c) H'
def spLeave (C : Addr) : Sp := fun vs H Q _ => ∃ (x D T : Addr) (h : Hd) (n : Int) (rl : Rl) (c : Int), vs = [.ref x, .int n] ∧ HandAt C H x D T h ∧ look h.rows n = some (rl, c) ∧ shrd rl = true ∧ ∀ H', Same H H' → Q (.bl (leaveB h.thing rl c)) H'
def spGoal (C : Addr) : Sp := fun vs H Q _ => ∃ (x D T : Addr) (h : Hd), vs = [.ref x] ∧ HandAt C H x D T h ∧ (∀ w, h.wish = some w → h.thing < w.2.length) ∧ Q (.int h.goal) H
def spHasPl (C : Addr) : Sp := fun vs H Q _ => ∃ (x D T : Addr) (h : Hd) (v : V) (o : Option Wi), vs = [.ref x, v] ∧ HandAt C H x D T h ∧ WV H v o ∧ Q (.bl (match o with | none => true | some w => decide (h.thing < w.2.length))) H
section
variable {P : Program} {w : World} {K : PySem.W.Frag} {mg : Str → Option Value} {base : Heap}
abbrev a_Hand_shares : Stmt := inClass (topS 18) 1
abbrev n_Hand_shares : List Str := ["self", "number"]
theorem sc_Hand_shares : FnScope n_Hand_shares ["self", "number"] (defScope a_Hand_shares) := ⟨rfl, rfl, rfl, by decide +kernel, rfl, by decide +kernel, by decide +kernel⟩
set_option maxHeartbeats 8000000 in
theorem ok_Hand_shares {f fWh fIs : Addr} {fd fdWh fdIs : FuncData} {k : Nat} {C : Addr} (F : Fun K "shares" "Hand.shares" a_Hand_shares f fd) (Wh : Kn P w K mg base 1 "is_whole" ["thing"] (spLook wholeD) fWh fdWh) (Is : Kn P w K mg base 1 "is_shared" ["rule"] spShrd fIs fdIs) (X : HandTxt K C)  : FnOk P w K mg base CX0 (k + 3) f fd ["self", "number"] (spShares C) := by
  refine F.ok sc_Hand_shares (fun vs H Q E h => ?_) (fun cdv A outer s H vs Q E hr h => ?_)
  · obtain ⟨x, D, T, h, n, rfl, _⟩ := h
    rfl
  · obtain ⟨x, D, T, h, n, rfl, ha, q⟩ := h
    refine ⟨_, (pss_one (ps_ret (pe_and (pe_kn Wh hr (by omega) (pa_cons (pv 1) pa_nil)) (pe_and (pe_cmp (pc_din (hu_of hr) (pv 1) (pe_fld (pv 0) rfl))) (pe_one (pe_kn Is hr (by omega) (pa_cons (pe_dget (hu_of hr) (pe_fld (pv 0) rfl) (pv 1) (fun _ _ => rfl)) pa_nil))))))), ?_⟩
    obtain ⟨dx, v, hs, e, w1, d, t, l⟩ := ha
    have e' : H x = some (.ins C dx [("thing", .int (h.thing : Int)), ("place", .int h.place), ("wish", v), ("held", .ref D), ("tally", .ref T)]) := e
    refine ⟨_, rfl, 0, .int n, _, rfl, .int n, fun H1 s1 => ⟨true, rfl, iteT ?_⟩⟩
    have e1 := s1 _ _ e'
    have d1 := rs s1 d
    have l1 := l.keep (.same s1)
    have q1 := q H1 s1
    unfold Hd.shares at q1
    refine ⟨_, rfl, .ref x, rfl, x, C, dx, _, _, rfl, e1, X.cl, X.n4, lk4, D, valV (kvH hs) (.inl n), rfl, DGr (k := .inl n) d1, _, rfl, ?_⟩
    rcases valH n l1 with ⟨a1, a2⟩ | ⟨q', c, a, a1, a2, a3⟩
    · rw [a1] at q1
      rw [a2]
      exact iteF q1
    · rw [a1] at q1
      rw [a2]
      exact iteT ⟨.ref x, rfl, x, C, dx, _, _, rfl, e1, X.cl, X.n4, lk4, _, rfl, D, .ref a, rfl, a2 ▸ DGr (k := .inl n) d1, a, q', rfl, a3, q1⟩
abbrev a_Hand_count_of : Stmt := inClass (topS 18) 3
abbrev n_Hand_count_of : List Str := ["self", "number"]
theorem sc_Hand_count_of : FnScope n_Hand_count_of ["self", "number"] (defScope a_Hand_count_of) := ⟨rfl, rfl, rfl, by decide +kernel, rfl, by decide +kernel, by decide +kernel⟩
set_option maxHeartbeats 8000000 in
theorem ok_Hand_count_of {f  : Addr} {fd  : FuncData} {k : Nat} {C : Addr} (F : Fun K "count_of" "Hand.count_of" a_Hand_count_of f fd) (Sh : C8.Met P w K mg base 3 C "shares" (spShares C) []) (X : HandTxt K C)  : FnOk P w K mg base CX0 (k + 4) f fd ["self", "number"] (spCount C) := by
  refine F.ok sc_Hand_count_of (fun vs H Q E h => ?_) (fun cdv A outer s H vs Q E hr h => ?_)
  · obtain ⟨x, D, T, h, n, rl, c, rfl, _⟩ := h
    rfl
  · obtain ⟨x, D, T, h, n, rl, c, rfl, ha, hl, hs0, q⟩ := h
    refine ⟨_, (pss_cons (ps_if (pt_not (pt_val (C8.pe_mt Sh hr (by omega) (pv 0) (pa_cons (pv 1) pa_nil)))) (pss_one (ps_never)) pss_nil)
      (pss_one (ps_ret (pe_dget (hu_of hr) (pe_fld (pv 0) rfl) (pv 1) (fun _ _ => rfl))))), ?_⟩
    have sh : h.shares n = true := by
      unfold Hd.shares
      rw [hl]
      exact hs0
    have ha0 := ha
    obtain ⟨dx, v, hs, e, w1, d, t, l⟩ := ha
    refine ⟨.ref x, rfl, x, dx, _, rfl, e, lkm, .int n, rfl, x, D, T, h, n, rfl, ha0, fun H1 s1 => ⟨true, congrArg V.bl sh, iteF ?_⟩⟩
    have vt : valV (kvT h.rows) (Sum.inl n) = some (V.int c) := by
      rw [valT, hl]
      rfl
    exact ⟨.ref x, rfl, x, C, dx, _, _, rfl, s1 _ _ e, X.cl, X.n5, lk5, .int n, rfl, T, .int c, rfl, vt ▸ DGet.k (k := .inl n) (s1 _ _ t), q H1 s1⟩
abbrev a_Hand_has_leave : Stmt := inClass (topS 18) 4
abbrev n_Hand_has_leave : List Str := ["self", "number", "even"]
theorem sc_Hand_has_leave : FnScope n_Hand_has_leave ["self", "number"] (defScope a_Hand_has_leave) := ⟨rfl, rfl, rfl, by decide +kernel, rfl, by decide +kernel, by decide +kernel⟩
set_option maxHeartbeats 8000000 in
theorem ok_Hand_has_leave {f  : Addr} {fd  : FuncData} {k : Nat} {C : Addr} (F : Fun K "has_leave" "Hand.has_leave" a_Hand_has_leave f fd) (Co : C8.Met P w K mg base 4 C "count_of" (spCount C) []) (X : HandTxt K C)  : FnOk P w K mg base CX0 (k + 5) f fd ["self", "number"] (spLeave C) := by
  refine F.ok sc_Hand_has_leave (fun vs H Q E h => ?_) (fun cdv A outer s H vs Q E hr h => ?_)
  · obtain ⟨x, D, T, h, n, rl, c, rfl, _⟩ := h
    rfl
  · obtain ⟨x, D, T, h, n, rl, c, rfl, ha, hl, hs0, q⟩ := h
    refine ⟨_, (pss_cons (ps_set (i := 2) sc_Hand_has_leave.nd rfl (.inl rfl) (pe_cmpR op_eq (pe_op op_mod (C8.pe_mt Co hr (by omega) (pv 0) (pa_cons (pv 1) pa_nil)) pe_int) pe_int (nomark _)))
      (pss_one (ps_ret (pe_cmpR op_eq (pv 2) (pe_cmpR op_eq (pe_ix ix_tup (pe_ix ix_tup (pe_dget (hu_of hr) (pe_fld (pv 0) rfl) (pv 1) (fun _ _ => rfl)) pe_int (fun _ _ => rfl)) pe_int (fun _ _ => rfl)) (pe_fld (pv 0) rfl) (nomark _)) (nomark _))))), ?_⟩
    have ha0 := ha
    obtain ⟨dx, v, hs, e, w1, d, t, l⟩ := ha
    refine ⟨.ref x, rfl, x, dx, _, rfl, e, lkm, .int n, rfl, x, D, T, h, n, rl, c, rfl, ha0, hl, hs0, fun H1 s1 => ?_⟩
    refine ⟨c, 2, rfl, rfl, (show (0 : Int) < 2 by decide), rfl, ?_⟩
    have l1 := l.keep (.same s1)
    rcases valH n l1 with ⟨a1, a2⟩ | ⟨q', c', a, a1, a2, a3⟩
    · rw [hl] at a1
      cases a1
    rw [hl] at a1
    cases a1
    obtain ⟨p1, p2, er, g1, g2⟩ := a3
    have g1' : H1 p1 = some (.tup [.int (rl.1.1 : Int), .str (word rl.1.2.1), .int rl.1.2.2]) := g1
    dsimp only [List.set]
    refine ⟨_, rfl, .ref x, rfl, x, C, dx, _, _, rfl, s1 _ _ e, X.cl, X.n4, lk4, .int n, rfl, D, .ref a, rfl, a2 ▸ DGr (k := .inl n) (rs s1 d), a, _, 0, .ref p1, rfl, rfl, .inl (.inl er), atI_nat (j := 0) rfl, p1, _, 0, _, rfl, rfl, .inl (.inl g1'), atI_nat (j := 0) rfl, .ref x, rfl, x, C, dx, _, _, rfl, s1 _ _ e, X.cl, X.n1, lk1, rfl, rfl, ?_⟩
    have e2 : decide (V.bl (decide (V.int (c % 2) = V.int 0)) = V.bl (decide (V.int (rl.1.1 : Int) = V.int (h.thing : Int)))) = leaveB h.thing rl c := by
      unfold leaveB
      have f1 : decide (V.int (c % 2) = V.int 0) = decide (c % 2 = 0) := decide_eq_decide.mpr ⟨fun z => by injection z, fun z => by rw [z]⟩
      have f2 : decide (V.int (rl.1.1 : Int) = V.int (h.thing : Int)) = decide (rl.1.1 = h.thing) := decide_eq_decide.mpr ⟨fun z => by injection z with z; omega, fun z => by rw [z]⟩
      rw [f1, f2, dec_bl]
    rw [e2]
    exact q H1 s1
abbrev a_Hand_wished_place : Stmt := inClass (topS 18) 7
abbrev n_Hand_wished_place : List Str := ["self"]
theorem sc_Hand_wished_place : FnScope n_Hand_wished_place ["self"] (defScope a_Hand_wished_place) := ⟨rfl, rfl, rfl, by decide +kernel, rfl, by decide +kernel, by decide +kernel⟩
set_option maxHeartbeats 8000000 in
theorem ok_Hand_wished_place {f  : Addr} {fd  : FuncData} {k : Nat} {C : Addr} (F : Fun K "wished_place" "Hand.wished_place" a_Hand_wished_place f fd)  (X : HandTxt K C)  : FnOk P w K mg base CX0 (k + 1) f fd ["self"] (spGoal C) := by
  refine F.ok sc_Hand_wished_place (fun vs H Q E h => ?_) (fun cdv A outer s H vs Q E hr h => ?_)
  · obtain ⟨x, D, T, h, rfl, _⟩ := h
    rfl
  · obtain ⟨x, D, T, h, rfl, ha, hw, q⟩ := h
    refine ⟨_, (pss_one (ps_ret (pe_ifExp (pt_cmpR op_isN (pe_fld (pv 0) rfl) pe_non (nomark _)) (pe_fld (pv 0) rfl) (pe_ix ix_tup (pe_ix ix_tup (pe_fld (pv 0) rfl) pe_int (fun _ _ => rfl)) (pe_fld (pv 0) rfl) (fun _ _ => rfl))))), ?_⟩
    obtain ⟨dx, v, hs, e, w1, d, t, l⟩ := ha
    unfold Hd.goal at q
    cases hh : h.wish with
    | none =>
      rw [hh] at w1 q
      obtain rfl : v = .non := w1
      exact ⟨.ref x, rfl, x, C, dx, _, _, rfl, e, X.cl, X.n3, lk3, rfl, true, congrArg V.bl (decide_eq_true rfl), iteT ⟨.ref x, rfl, x, C, dx, _, _, rfl, e, X.cl, X.n2, lk2, q⟩⟩
    | some w =>
      have hl := hw w hh
      rw [hh] at w1 q
      obtain ⟨p, g, rfl, ep, eg⟩ := w1
      refine ⟨.ref x, rfl, x, C, dx, _, _, rfl, e, X.cl, X.n3, lk3, rfl, false, congrArg V.bl (decide_eq_false (fun z => by cases z)), iteF ?_⟩
      refine ⟨.ref x, rfl, x, C, dx, _, _, rfl, e, X.cl, X.n3, lk3, p, _, 1, _, rfl, rfl, .inl (.inl ep), atI_nat (j := 1) rfl, .ref x, rfl, x, C, dx, _, _, rfl, e, X.cl, X.n1, lk1, g, _, (h.thing : Int), .int (w.2.getD h.thing 0), rfl, rfl, .inl (.inl eg), atI_nat ?_, q⟩
      rw [List.getElem?_map, List.getElem?_eq_getElem hl, List.getD_eq_getElem?_getD, List.getElem?_eq_getElem hl]
      rfl
abbrev a_Hand_has_place : Stmt := inClass (topS 18) 12
abbrev n_Hand_has_place : List Str := ["self", "wish"]
theorem sc_Hand_has_place : FnScope n_Hand_has_place ["self", "wish"] (defScope a_Hand_has_place) := ⟨rfl, rfl, rfl, by decide +kernel, rfl, by decide +kernel, by decide +kernel⟩
set_option maxHeartbeats 8000000 in
theorem ok_Hand_has_place {f  : Addr} {fd  : FuncData} {k : Nat} {C : Addr} (F : Fun K "has_place" "Hand.has_place" a_Hand_has_place f fd)  (X : HandTxt K C) (m_len : mg "len" = none) : FnOk P w K mg base CX0 (k + 1) f fd ["self", "wish"] (spHasPl C) := by
  refine F.ok sc_Hand_has_place (fun vs H Q E h => ?_) (fun cdv A outer s H vs Q E hr h => ?_)
  · obtain ⟨x, D, T, h, v, o, rfl, _⟩ := h
    rfl
  · obtain ⟨x, D, T, h, v, o, rfl, ha, hv, q⟩ := h
    refine ⟨_, (pss_one (ps_ret (pe_or (pe_cmpR op_isN (pv 1) pe_non (nomark _)) (pe_one (pe_cmpR op_lt (pe_fld (pv 0) rfl) (pe_callB call_len_seq (by rfl) m_len (by decide +kernel) (pa_cons (pe_ix ix_tup (pv 1) pe_int (fun _ _ => rfl)) pa_nil)) (nomark _)))))), ?_⟩
    obtain ⟨dx, v', hs, e, w1, d, t, l⟩ := ha
    cases o with
    | none =>
      obtain rfl : v = .non := hv
      exact ⟨_, rfl, rfl, true, congrArg V.bl (decide_eq_true rfl), iteT q⟩
    | some w =>
      obtain ⟨p, g, rfl, ep, eg⟩ := hv
      refine ⟨_, rfl, rfl, false, congrArg V.bl (decide_eq_false (fun z => by cases z)), iteF ?_⟩
      refine ⟨.ref x, rfl, x, C, dx, _, _, rfl, e, X.cl, X.n1, lk1, _, rfl, p, _, 1, _, rfl, rfl, .inl (.inl ep), atI_nat (j := 1) rfl, g, _, rfl, .inr (.inl (.inl eg)), _, _, rfl, rfl, ?_⟩
      rw [List.length_map]
      have e2 : decide ((h.thing : Int) < (w.2.length : Int)) = decide (h.thing < w.2.length) := decide_eq_decide.mpr ⟨fun z => by omega, fun z => by omega⟩
      show Q (.bl (decide ((h.thing : Int) < (w.2.length : Int)))) H
      rw [e2]
      exact q
end
end K64

set_option Elab.async false
set_option linter.all false
set_option maxRecDepth 100000
namespace K64
open PySem PySem.Spec PyProof.Rows L2 NB

theorem tif_join {c : Bool} {v : V} {ta tb : TE} {σ : L2.St} {H : Hp} {K : VK} (ha : c = true → ∀ Q : VK, Q v H → ta σ H Q) (hb : ¬ c = true → ∀ Q : VK, Q v H → tb σ H Q) (q : K v H) : if c = true then ta σ H K else tb σ H K := by
  cases c with
  | true => exact ha rfl K q
  | false => exact hb (by simp) K q

/-! ### what a hand lacks -/
def ShL (h : Hd) (ys : List Int) : Prop := ∃ zs : List Int, zs.Perm (h.rows.map (·.1)) ∧ zs.Pairwise (· ≤ ·) ∧ ys = zs.filter h.shares
def Hd.lv (h : Hd) (n : Int) : Bool := match look h.rows n with
  | some z => leaveB h.thing z.1 z.2
  | none => true
def Hd.there (h : Hd) : Int := if h.place < h.goal then h.place + 1 else h.place - 1
def Hd.ou (h : Hd) (n : Int) : Bool := match look h.rows n with
  | some z => outB (ownS z.1 h.thing) h.there
  | none => false
def LkL (h : Hd) (ys : List Int) : Prop := (h.goal = h.place ∧ ys = []) ∨ (h.goal ≠ h.place ∧ ∃ ss, ShL h ss ∧ ys = (ss.filter fun n => !h.lv n).filter h.ou)
theorem filter_take {f : Int → Bool} {zs : List Int} {i : Nat} {z : Int} (e : zs[i]? = some z) : (zs.take (i + 1)).filter f = (zs.take i).filter f ++ if f z = true then [z] else [] := by
  rw [List.take_add_one, e, List.filter_append]
  congr 1
  show [z].filter f = _
  cases h : f z <;> simp [h]
theorem look_of {rows : List (Int × Rl × Int)} {n : Int} (h : n ∈ rows.map (·.1)) : ∃ q c, look rows n = some (q, c) := by
  induction rows with
  | nil => cases h
  | cons r rows ih =>
    rw [look_cons]
    by_cases e : r.1 = n
    · rw [if_pos e]; exact ⟨_, _, rfl⟩
    · rw [if_neg e]
      rw [List.map_cons] at h
      rcases List.mem_cons.mp h with h | h
      · exact absurd h.symm e
      · exact ih h
theorem ShL.mem {h : Hd} {ys : List Int} (s : ShL h ys) {n : Int} (hn : n ∈ ys) : ∃ q c, look h.rows n = some (q, c) ∧ shrd q = true := by
  obtain ⟨zs, p, _, rfl⟩ := s
  obtain ⟨h1, h2⟩ := List.mem_filter.mp hn
  obtain ⟨q, c, e⟩ := look_of ((p.mem_iff).mp h1)
  refine ⟨q, c, e, ?_⟩
  unfold Hd.shares at h2
  rw [e] at h2
  exact h2
theorem ShL.len {h : Hd} {ys : List Int} (s : ShL h ys) : ys.length ≤ h.rows.length := by
  obtain ⟨zs, p, _, rfl⟩ := s
  have := List.length_filter_le h.shares zs
  have := p.length_eq
  rw [List.length_map] at this
  omega
theorem LkL.len {h : Hd} {ys : List Int} (s : LkL h ys) : ys.length ≤ h.rows.length := by
  rcases s with ⟨_, rfl⟩ | ⟨_, ss, s, rfl⟩
  · exact Nat.zero_le _
  · have := s.len
    have := List.length_filter_le h.ou (ss.filter fun n => !h.lv n)
    have := List.length_filter_le (fun n => !h.lv n) ss
    omega
theorem LkL.mem {h : Hd} {ys : List Int} (s : LkL h ys) {n : Int} (hn : n ∈ ys) : ∃ q c, look h.rows n = some (q, c) ∧ shrd q = true := by
  rcases s with ⟨_, rfl⟩ | ⟨_, ss, s, rfl⟩
  · cases hn
  · exact s.mem (List.mem_filter.mp (List.mem_filter.mp hn).1).1
def spShL (C : Addr) : Sp := fun vs H Q _ => ∃ (x D T : Addr) (h : Hd), vs = [.ref x] ∧ HandAt C H x D T h ∧ h.rows.length ≤ 40 ∧ ∀ H' g ys, Same H H' → H' g = some (.lst (ys.map V.int)) → ShL h ys → Q (.ref g) H'
def spLkL (C : Addr) : Sp := fun vs H Q _ => ∃ (x D T : Addr) (h : Hd), vs = [.ref x] ∧ HandAt C H x D T h ∧ h.rows.length ≤ 40 ∧ (∀ w, h.wish = some w → h.thing < w.2.length) ∧ ∀ H' g ys, Same H H' → H' g = some (.tup (ys.map V.int)) → LkL h ys → Q (.ref g) H'
section
variable {P : Program} {w : World} {K : PySem.W.Frag} {mg : Str → Option Value} {base : Heap}
abbrev a_Hand_shared : Stmt := inClass (topS 18) 2
abbrev n_Hand_shared : List Str := ["self", "number"]
theorem sc_Hand_shared : FnScope n_Hand_shared ["self"] (defScope a_Hand_shared) := ⟨rfl, rfl, rfl, by decide +kernel, rfl, by decide +kernel, by decide +kernel⟩
set_option maxHeartbeats 8000000 in
theorem ok_Hand_shared {f fIs : Addr} {fd fdIs : FuncData} {k : Nat} {C : Addr} (F : Fun K "shared" "Hand.shared" a_Hand_shared f fd) (Is : Kn P w K mg base 1 "is_shared" ["rule"] spShrd fIs fdIs) (X : HandTxt K C) (m_sorted : mg "sorted" = none) : FnOk P w K mg base CX0 (k + 2) f fd ["self"] (spShL C) := by
  refine F.ok sc_Hand_shared (fun vs H Q E h => ?_) (fun cdv A outer s H vs Q E hr h => ?_)
  · obtain ⟨x, D, T, h, rfl, _⟩ := h
    rfl
  · obtain ⟨x, D, T, h, rfl, ha, l40, q⟩ := h
    refine ⟨_, (pss_one (ps_ret (
        pe_lc (own := [("number", 1)]) (g := (gName 1)) (tt := (tB (tCall spShrd [] E0 (tCons (tDGet (tFld K (tVar 0) "held") (tVar 1)) tNil)))) (te := (tVar 1)) rfl sc_Hand_shared.nd (pi_list (pe_callB (call_sortedDI rfl) (by rfl) m_sorted (by decide +kernel) (pa_cons (pe_fld (pv 0) rfl) pa_nil))) (blkOk_by (N := n_Hand_shared) (sc := defScope a_Hand_shared) (by decide +kernel))
          (fun _ _ _ _ _ => (pg_name (i := 1) sc_Hand_shared.nd rfl (.inl rfl) (hf := .inr rfl))) (fun _ _ _ _ _ => pts_one (pt_val (pe_kn Is hr (by omega) (pa_cons (pe_dget (hu_of hr) (pe_fld (pv 0) rfl) (pv 1) (fun _ _ => rfl)) pa_nil)))) (fun _ _ _ _ _ => (pv 1))))), ?_⟩
    obtain ⟨dx, v, hs, e, w1, d, t, l⟩ := ha
    have ky : (kvH hs).map (·.1) = (h.rows.map (·.1)).map Sum.inl := by
      rw [← l.keys]
      unfold kvH
      rw [List.map_map, List.map_map]
      rfl
    refine ⟨.ref x, rfl, x, C, dx, _, _, rfl, e, X.cl, X.n4, lk4, D, kvH hs, h.rows.map (·.1), rfl, d, ky, by rw [List.length_map]; omega, fun zs L pm pw nL => ?_⟩
    have s1 := same_new (o := .lst (zs.map V.int)) nL
    have eL : (upd H L (.lst (zs.map V.int))) L = some (.lst (zs.map V.int)) := upd_same
    generalize upd H L (.lst (zs.map V.int)) = H1 at s1 eL ⊢
    have lz : zs.length ≤ 40 := by
      have := pm.length_eq
      rw [List.length_map] at this
      omega
    refine ⟨L, rfl, ⟨_, .inl (.inl eL)⟩, fun G nG => lc_it (walk_list (xs := zs.map V.int)) (fun i H' => Same H1 H' ∧ H' G = some (.lst (((zs.take i).filter h.shares).map V.int))) ⟨same_new nG, upd_same⟩ (fun i H' _ p => .inl (.inl (p.1 _ _ eL))) (fun i u H2 H3 hi p y => ?_) (fun H' p => ?_)⟩
    · obtain ⟨sm, eG⟩ := p
      obtain ⟨rfl, gv⟩ := y
      obtain ⟨n, en, rfl⟩ := mapGet gv
      have s02 := s1.trans sm
      obtain ⟨q0, c0, lk0⟩ := look_of ((pm.mem_iff).mp (List.mem_of_getElem? en))
      have l1 := l.keep (.same s02)
      rcases valH n l1 with ⟨a1, a2⟩ | ⟨q', c', a, a1, a2, a3⟩
      · rw [lk0] at a1
        cases a1
      rw [lk0] at a1
      cases a1
      have shn : h.shares n = shrd q0 := by
        unfold Hd.shares
        rw [lk0]
      refine ⟨rfl, .ref x, rfl, x, C, dx, _, _, rfl, s02 _ _ e, X.cl, X.n4, lk4, .int n, rfl, D, .ref a, rfl, a2 ▸ DGr (k := .inl n) (rs s02 d), a, q0, rfl, a3, shrd q0, rfl, ?_⟩
      cases hq : shrd q0 with
      | false =>
        refine iteF ⟨sm, ?_⟩
        rw [eG, filter_take en, shn, hq]
        simp
      | true =>
        refine iteT ⟨.int n, rfl, _, eG, ?_, same_over sm nG, ?_⟩
        · rw [List.length_map]
          refine small1000 (Nat.le_trans (List.length_filter_le _ _) ?_)
          rw [List.length_take]
          exact Nat.le_trans (Nat.min_le_right _ _) (by omega)
        · rw [upd_same, filter_take en, shn, hq, List.map_append]
          rfl
    · obtain ⟨sm, eG⟩ := p
      rw [List.take_of_length_le (by rw [List.length_map]; exact Nat.le_refl _)] at eG
      exact q H' G _ (s1.trans sm) eG ⟨zs, pm, pw, rfl⟩
abbrev a_Hand_lacks : Stmt := inClass (topS 18) 9
abbrev n_Hand_lacks : List Str := ["self", "here", "goal", "there", "lacked", "number"]
theorem sc_Hand_lacks : FnScope n_Hand_lacks ["self"] (defScope a_Hand_lacks) := ⟨rfl, rfl, rfl, by decide +kernel, rfl, by decide +kernel, by decide +kernel⟩
set_option maxHeartbeats 8000000 in
theorem ok_Hand_lacks {f fOw fIo : Addr} {fd fdOw fdIo : FuncData} {k : Nat} {C : Addr} (F : Fun K "lacks" "Hand.lacks" a_Hand_lacks f fd) (Sd1 : C8.Met P w K mg base 2 C "shared" (spShL C) []) (Le : C8.Met P w K mg base 5 C "has_leave" (spLeave C) []) (Wp : C8.Met P w K mg base 1 C "wished_place" (spGoal C) []) (Ow : Kn P w K mg base 1 "own_side" ["rule", "thing"] spOwnS fOw fdOw) (Io : Kn P w K mg base 2 "is_out_at" ["side", "place"] spOutB fIo fdIo) (X : HandTxt K C) (m_tuple : mg "tuple" = none) : FnOk P w K mg base CX0 (k + 6) f fd ["self"] (spLkL C) := by
  refine F.ok sc_Hand_lacks (fun vs H Q E h => ?_) (fun cdv A outer s H vs Q E hr h => ?_)
  · obtain ⟨x, D, T, h, rfl, _⟩ := h
    rfl
  · obtain ⟨x, D, T, h, rfl, ha, l40, hw, q⟩ := h
    refine ⟨_, (pss_cons (ps_par (i := 1) (j := 2) (by rfl) sc_Hand_lacks.nd rfl rfl (by decide) rfl rfl (pa_cons (pe_fld (pv 0) rfl) (pa_cons (C8.pe_mt0 Wp hr (by omega) (pv 0)) pa_nil)) (by rfl))
      (pss_cons (ps_if (pt_cmpR op_eq (pv 2) (pv 1) (nomark _)) (pss_one (ps_ret (pe_tup pa_nil))) pss_nil)
      (pss_cons (ps_set (i := 3) sc_Hand_lacks.nd rfl (.inr rfl) (pe_ifExp (pt_cmpR op_gt (pv 2) (pv 1) (nomark _)) (pe_op op_add (pv 1) pe_int) (pe_op op_sub (pv 1) pe_int)))
      (pss_cons (ps_setLc (i := 4) (own := [("number", 5)]) (g := (gName 5)) (tt := (tNot (tB (tMeth C "has_leave" (spLeave C) [] E0 (tVar 0) (tCons (tVar 5) tNil))))) (te := (tVar 5)) rfl sc_Hand_lacks.nd rfl rfl (sw_true rfl rfl rfl (by decide +kernel)) (pi_list (C8.pe_mt0 Sd1 hr (by omega) (pv 0))) (blkOk_by (N := n_Hand_lacks) (sc := defScope a_Hand_lacks) (by decide +kernel))
          (fun _ _ _ _ _ => (pg_name (i := 5) sc_Hand_lacks.nd rfl (.inl rfl) (hf := .inr rfl))) (fun _ _ _ _ _ => pts_one (pt_not (pt_val (C8.pe_mt Le hr (by omega) (pv 0) (pa_cons (pv 5) pa_nil))))) (fun _ _ _ _ _ => (pv 5)))
      (pss_one (ps_ret (pe_callTy call_tuple_of (by rfl) m_tuple (by decide +kernel) (pa_cons (
        pe_lc (own := [("number", 5)]) (g := (gName 5)) (tt := (tB (tCall spOutB [] E0 (tCons (tCall spOwnS [] E0 (tCons (tDGet (tFld K (tVar 0) "held") (tVar 5)) (tCons (tFld K (tVar 0) "thing") tNil))) (tCons (tVar 3) tNil))))) (te := (tVar 5)) rfl sc_Hand_lacks.nd (pi_list (pv 4)) (blkOk_by (N := n_Hand_lacks) (sc := defScope a_Hand_lacks) (by decide +kernel))
          (fun _ _ _ _ _ => (pg_name (i := 5) sc_Hand_lacks.nd rfl (.inl rfl) (hf := .inr rfl))) (fun _ _ _ _ _ => pts_one (pt_val (pe_kn Io hr (by omega) (pa_cons (pe_kn Ow hr (by omega) (pa_cons (pe_dget (hu_of hr) (pe_fld (pv 0) rfl) (pv 5) (fun _ _ => rfl)) (pa_cons (pe_fld (pv 0) rfl) pa_nil))) (pa_cons (pv 3) pa_nil))))) (fun _ _ _ _ _ => (pv 5))) pa_nil)))))))), ?_⟩
    have ha0 := ha
    obtain ⟨dx, v, hs, e, w1, d, t, l⟩ := ha
    refine ⟨.ref x, rfl, x, C, dx, _, _, rfl, e, X.cl, X.n2, lk2, .ref x, rfl, x, dx, _, rfl, e, lkm, x, D, T, h, rfl, ha0, hw, _, _, rfl, ?_⟩
    dsimp only [List.set]
    refine ⟨_, rfl, _, rfl, rfl, decide (h.goal = h.place), congrArg V.bl (decide_eq_decide.mpr ⟨fun z => by injection z, fun z => by rw [z]⟩), ?_⟩
    by_cases hg : h.goal = h.place
    · rw [decide_eq_true hg]
      exact iteT ⟨(show 0 ≤ sizeLine by decide), fun g ng => q _ g [] (same_new ng) upd_same (.inl ⟨hg, rfl⟩)⟩
    rw [decide_eq_false hg]
    refine iteF ⟨_, rfl, _, rfl, _, _, rfl, rfl, _, rfl, tif_join (v := .int h.there) (fun c' Q qq => ?_) (fun c' Q qq => ?_) ?_⟩
    · have c2 := of_decide_eq_true c'
      refine ⟨_, rfl, _, 1, rfl, rfl, ?_⟩
      show Q (.int (h.place + 1)) H
      rw [show h.place + 1 = h.there by unfold Hd.there; rw [if_pos c2]]
      exact qq
    · have c2 := of_decide_eq_false (Bool.eq_false_iff.mpr c')
      refine ⟨_, rfl, _, 1, rfl, rfl, ?_⟩
      show Q (.int (h.place - 1)) H
      rw [show h.place - 1 = h.there by unfold Hd.there; rw [if_neg c2]]
      exact qq
    dsimp only [List.set]
    refine ⟨.ref x, rfl, x, dx, _, rfl, e, lkm, x, D, T, h, rfl, ha0, l40, fun H1 S ss s1 eS sL => ?_⟩
    have lS := sL.len
    refine ⟨S, rfl, ⟨_, .inl (.inl eS)⟩, fun G nG => lc_it (walk_list (xs := ss.map V.int)) (fun i H' => Same H1 H' ∧ H' G = some (.lst (((ss.take i).filter fun n => !h.lv n).map V.int))) ⟨same_new nG, upd_same⟩ (fun i H' _ p => .inl (.inl (p.1 _ _ eS))) (fun i u H2 H3 hi p y => ?_) (fun H2 p => ?_)⟩
    · obtain ⟨sm, eG⟩ := p
      obtain ⟨rfl, gv⟩ := y
      obtain ⟨n, en, rfl⟩ := mapGet gv
      have s02 := s1.trans sm
      obtain ⟨q0, c0, lk0, sh0⟩ := sL.mem (List.mem_of_getElem? en)
      have lvn : h.lv n = leaveB h.thing q0 c0 := by
        unfold Hd.lv
        rw [lk0]
      refine ⟨rfl, .ref x, rfl, x, dx, _, rfl, s02 _ _ e, lkm, .int n, rfl, x, D, T, h, n, q0, c0, rfl, ha0.same s02, lk0, sh0, fun H4 s4 => ⟨leaveB h.thing q0 c0, rfl, ?_⟩⟩
      have eG4 := s4 _ _ eG
      cases hq : leaveB h.thing q0 c0 with
      | true =>
        refine iteF ⟨sm.trans s4, ?_⟩
        rw [eG4, filter_take (f := fun n => !h.lv n) en, lvn, hq]
        simp
      | false =>
        refine iteT ⟨.int n, rfl, _, eG4, ?_, same_over (sm.trans s4) nG, ?_⟩
        · rw [List.length_map]
          refine small1000 (Nat.le_trans (List.length_filter_le _ _) ?_)
          rw [List.length_take]
          exact Nat.le_trans (Nat.min_le_right _ _) (by omega)
        · rw [upd_same, filter_take (f := fun n => !h.lv n) en, lvn, hq, List.map_append]
          rfl
    obtain ⟨sm, eG⟩ := p
    rw [List.take_of_length_le (by rw [List.length_map]; exact Nat.le_refl _)] at eG
    have s02 := s1.trans sm
    dsimp only [List.set]
    have lF : (ss.filter fun n => !h.lv n).length ≤ 40 := Nat.le_trans (List.length_filter_le _ _) (by omega)
    have mF : ∀ n ∈ ss.filter fun n => !h.lv n, ∃ q c, look h.rows n = some (q, c) ∧ shrd q = true := fun n hn => sL.mem (List.mem_filter.mp hn).1
    refine ⟨.ref G, rfl, G, rfl, ⟨_, .inl (.inl eG)⟩, fun W nW => lc_it (walk_list (xs := (ss.filter fun n => !h.lv n).map V.int)) (fun i H' => Same H2 H' ∧ H' W = some (.lst ((((ss.filter fun n => !h.lv n).take i).filter h.ou).map V.int))) ⟨same_new nW, upd_same⟩ (fun i H' _ p => .inl (.inl (p.1 _ _ eG))) (fun i u H3 H4 hi p y => ?_) (fun H3 p => ?_)⟩
    · obtain ⟨sm3, eW⟩ := p
      obtain ⟨rfl, gv⟩ := y
      obtain ⟨n, en, rfl⟩ := mapGet gv
      have s03 := s02.trans sm3
      obtain ⟨q0, c0, lk0, sh0⟩ := mF n (List.mem_of_getElem? en)
      have oun : h.ou n = outB (ownS q0 h.thing) h.there := by
        unfold Hd.ou
        rw [lk0]
      rcases valH n (l.keep (.same s03)) with ⟨a1, a2⟩ | ⟨q', c', a, a1, a2, a3⟩
      · rw [lk0] at a1
        cases a1
      rw [lk0] at a1
      cases a1
      refine ⟨rfl, .ref x, rfl, x, C, dx, _, _, rfl, s03 _ _ e, X.cl, X.n4, lk4, .int n, rfl, D, .ref a, rfl, a2 ▸ DGr (k := .inl n) (rs s03 d), .ref x, rfl, x, C, dx, _, _, rfl, s03 _ _ e, X.cl, X.n1, lk1, a, q0, h.thing, rfl, a3, fun p1 e1 => ⟨_, rfl, p1, _, h.there, rfl, e1, fun H5 s5 => ⟨outB (ownS q0 h.thing) h.there, rfl, ?_⟩⟩⟩
      have eW5 := s5 _ _ eW
      cases hq : outB (ownS q0 h.thing) h.there with
      | false =>
        refine iteF ⟨sm3.trans s5, ?_⟩
        rw [eW5, filter_take (f := h.ou) en, oun, hq]
        simp
      | true =>
        refine iteT ⟨.int n, rfl, _, eW5, ?_, same_over (sm3.trans s5) nW, ?_⟩
        · rw [List.length_map]
          refine small1000 (Nat.le_trans (List.length_filter_le _ _) ?_)
          rw [List.length_take]
          exact Nat.le_trans (Nat.min_le_right _ _) (by omega)
        · rw [upd_same, filter_take (f := h.ou) en, oun, hq, List.map_append]
          rfl
    · obtain ⟨sm3, eW⟩ := p
      rw [List.take_of_length_le (by rw [List.length_map]; exact Nat.le_refl _)] at eW
      exact ⟨W, _, rfl, .inl ⟨.inl (.inl eW), fun g ng => q _ g _ ((s02.trans sm3).trans (same_new ng)) upd_same (.inr ⟨hg, ss, sL, rfl⟩)⟩⟩
end
end K64

set_option Elab.async false
set_option linter.all false
set_option maxRecDepth 100000
namespace K64
open PySem PySem.Spec PyProof.Rows L2 NB

/-! ### what a hand answers and hears -/
def TupK (H H' : Hp) : Prop := ∀ b xs, H b = some (.tup xs) → H' b = some (.tup xs)
theorem SideAt.tk {H H' : Hp} {p : Addr} {s : Sd} (h : SideAt H p s) (k : TupK H H') : SideAt H' p s := k _ _ h
theorem RuleAt.tk {H H' : Hp} {p : Addr} {q : Rl} (h : RuleAt H p q) (k : TupK H H') : RuleAt H' p q := by
  obtain ⟨p1, p2, e, h1, h2⟩ := h
  exact ⟨p1, p2, k _ _ e, h1.tk k, h2.tk k⟩
theorem WV.tk {H H' : Hp} {v : V} : ∀ {o : Option Wi}, WV H v o → TupK H H' → WV H' v o
  | none, h, _ => h
  | some w, ⟨p, q, e, e1, e2⟩, k => ⟨p, q, e, k _ _ e1, k _ _ e2⟩
theorem LetAt.tk {H H' : Hp} {p : Addr} {l : Lt} (h : LetAt H p l) (k : TupK H H') : LetAt H' p l := by
  obtain ⟨v, e, w⟩ := h
  exact ⟨v, k _ _ e, w.tk k⟩
theorem Held.tk {H H' : Hp} (k : TupK H H') : ∀ {hs : List (Int × Addr)} {rows : List (Int × Rl × Int)}, Held H hs rows → Held H' hs rows
  | [], [], _ => trivial
  | _ :: _, _ :: _, ⟨a, b, c⟩ => ⟨a, b.tk k, c.tk k⟩
  | [], _ :: _, h => h.elim
  | _ :: _, [], h => h.elim
/-- all but a hand and its tally stands -/
def ButH (x T : Addr) (H H' : Hp) : Prop := ∀ b o, b ≠ x → b ≠ T → H b = some o → H' b = some o
theorem ButH.of {x T : Addr} {H H' : Hp} (s : Same H H') : ButH x T H H' := fun b o _ _ e => s b o e
theorem ButH.trans {x T : Addr} {H H1 H2 : Hp} (a : ButH x T H H1) (b : ButH x T H1 H2) : ButH x T H H2 := fun c o n m e => b c o n m (a c o n m e)
theorem ButH.tk {C : Addr} {x D T : Addr} {h : Hd} {H H' : Hp} (b : ButH x T H H') (a : HandAt C H x D T h) : TupK H H' := fun c xs e => by
  obtain ⟨dx, v, hs, e1, _, _, t, _⟩ := a
  refine b c _ (fun z => ?_) (fun z => ?_) e
  · rw [z, show H x = _ from e1] at e
    cases e
  · rw [z, t] at e
    cases e
/-- letters to things, in a tuple -/
abbrev Bt := Int × Lt
def PrAt (H : Hp) (a : Addr) (b : Bt) : Prop := ∃ l, H a = some (.tup [.int b.1, .ref l]) ∧ LetAt H l b.2
def BtAt (H : Hp) : List Addr → List Bt → Prop
  | [], [] => True
  | a :: as, b :: bs => PrAt H a b ∧ BtAt H as bs
  | _, _ => False
def BAt (H : Hp) (g : Addr) (bs : List Bt) : Prop := ∃ as : List Addr, H g = some (.tup (as.map V.ref)) ∧ BtAt H as bs
theorem PrAt.tk {H H' : Hp} {a : Addr} {b : Bt} (h : PrAt H a b) (k : TupK H H') : PrAt H' a b := by
  obtain ⟨l, e, w⟩ := h
  exact ⟨l, k _ _ e, w.tk k⟩
theorem BtAt.tk {H H' : Hp} (k : TupK H H') : ∀ {as : List Addr} {bs : List Bt}, BtAt H as bs → BtAt H' as bs
  | [], [], _ => trivial
  | _ :: _, _ :: _, ⟨a, c⟩ => ⟨a.tk k, c.tk k⟩
  | [], _ :: _, h => h.elim
  | _ :: _, [], h => h.elim
theorem BAt.tk {H H' : Hp} {g : Addr} {bs : List Bt} (h : BAt H g bs) (k : TupK H H') : BAt H' g bs := by
  obtain ⟨as, e, w⟩ := h
  exact ⟨as, k _ _ e, w.tk k⟩
theorem tk_same {H H' : Hp} (s : Same H H') : TupK H H' := fun b xs e => s _ _ e
def putC (rows : List (Int × Rl × Int)) (n c : Int) : List (Int × Rl × Int) := rows.map fun r => if r.1 = n then (r.1, r.2.1, c) else r
theorem putC_keys (rows : List (Int × Rl × Int)) (n c : Int) : (putC rows n c).map (·.1) = rows.map (·.1) := by
  unfold putC
  rw [List.map_map]
  refine List.map_congr_left fun r _ => ?_
  show (if r.1 = n then (r.1, r.2.1, c) else r).1 = r.1
  split <;> rfl
theorem look_put (rows : List (Int × Rl × Int)) (n c m : Int) : look (putC rows n c) m = (look rows m).map fun z => if m = n then (z.1, c) else z := by
  induction rows with
  | nil => rfl
  | cons r rows ih =>
    have e : putC (r :: rows) n c = (if r.1 = n then (r.1, r.2.1, c) else r) :: putC rows n c := rfl
    rw [e, look_cons, look_cons, ih]
    have e1 : (if r.1 = n then (r.1, r.2.1, c) else r).1 = r.1 := by split <;> rfl
    rw [e1]
    by_cases h : r.1 = m
    · rw [if_pos h, if_pos h]
      by_cases k : r.1 = n
      · rw [if_pos k]
        simp [← h, k]
      · rw [if_neg k]
        have : ¬ m = n := fun z => k (h.trans z)
        simp [this]
    · rw [if_neg h, if_neg h]
theorem put_kvT {rows : List (Int × Rl × Int)} {n c : Int} {z : Rl × Int} (h : look rows n = some z) : putK (kvT rows) (Sum.inl n) (V.int c) = kvT (putC rows n c) := by
  have hany : ((kvT rows).any fun kv => decide (kv.1 = (Sum.inl n : Key))) = true := by
    have hv := valT rows n
    rw [h] at hv
    unfold valV at hv
    cases hf : (kvT rows).find? fun kv => decide (kv.1 = (Sum.inl n : Key)) with
    | none =>
      rw [hf] at hv
      cases hv
    | some kv =>
      have hk := List.find?_some hf
      exact List.any_eq_true.mpr ⟨kv, List.mem_of_find?_eq_some hf, hk⟩
  unfold putK
  rw [if_pos hany]
  unfold kvT putC
  rw [List.map_map, List.map_map]
  refine List.map_congr_left fun r _ => ?_
  show (if (Sum.inl r.1 : Key) = Sum.inl n then ((Sum.inl r.1 : Key), V.int c) else (Sum.inl r.1, V.int r.2.2)) = (Sum.inl (if r.1 = n then (r.1, r.2.1, c) else r).1, V.int (if r.1 = n then (r.1, r.2.1, c) else r).2.2)
  by_cases k : r.1 = n
  · rw [if_pos (by rw [k]), if_pos k]
  · rw [if_neg (fun z => k (Sum.inl.inj z)), if_neg k]
theorem Held.put {H : Hp} (n c : Int) : ∀ {hs : List (Int × Addr)} {rows : List (Int × Rl × Int)}, Held H hs rows → Held H hs (putC rows n c)
  | [], [], _ => trivial
  | z :: hs, r :: rows, ⟨a, b, l⟩ => by
    have e : putC (r :: rows) n c = (if r.1 = n then (r.1, r.2.1, c) else r) :: putC rows n c := rfl
    rw [e]
    refine ⟨?_, ?_, l.put n c⟩
    · split
      · exact a
      · exact a
    · split
      · exact b
      · exact b
  | [], _ :: _, h => h.elim
  | _ :: _, [], h => h.elim
def Hd.setc (h : Hd) (n c : Int) : Hd := { h with rows := putC h.rows n c }
def Hd.cnd (h : Hd) (z : Rl × Int) (k : Int) : Bool := decide (z.2 = k) && (leaveB h.thing z.1 z.2 && !outB (ownS z.1 h.thing) h.place)
def Hd.cup (h : Hd) (z : Rl × Int) (k : Int) : Int := if h.cnd z k = true then z.2 + 1 else z.2
def Hd.hup (h : Hd) (n : Int) (z : Rl × Int) (k : Int) : Hd := if h.cnd z k = true then h.setc n (z.2 + 1) else h
def Hd.ans (h : Hd) (n k : Int) : Hd × List Bt := match look h.rows n with
  | none => (h, [])
  | some z => (h.hup n z k, if h.cup z k = k then [] else [((othT z.1 h.thing : Nat), ("leave", [n, h.cup z k], h.wish))])
theorem look_hup {h : Hd} {n k : Int} {z : Rl × Int} (e : look h.rows n = some z) : look (h.hup n z k).rows n = some (z.1, h.cup z k) := by
  unfold Hd.hup Hd.cup
  by_cases c : h.cnd z k = true
  · rw [if_pos c, if_pos c]
    show look (putC h.rows n (z.2 + 1)) n = _
    rw [look_put, e]
    simp
  · rw [if_neg c, if_neg c]
    exact e
theorem ans_of {h : Hd} {n k : Int} {z : Rl × Int} (e : look h.rows n = some z) : h.ans n k = (h.hup n z k, if h.cup z k = k then ([] : List Bt) else [(((othT z.1 h.thing : Nat) : Int), (("leave" : Str), [n, h.cup z k], h.wish))]) := by
  unfold Hd.ans
  rw [e]
theorem hup_thing (h : Hd) (n : Int) (z : Rl × Int) (k : Int) : (h.hup n z k).thing = h.thing := by unfold Hd.hup; split <;> rfl
theorem hup_wish (h : Hd) (n : Int) (z : Rl × Int) (k : Int) : (h.hup n z k).wish = h.wish := by unfold Hd.hup; split <;> rfl
theorem HandAt.setc {C : Addr} {H : Hp} {x D T : Addr} {h : Hd} {n c : Int} {z : Rl × Int} (a : HandAt C H x D T h) (hd : D ≠ T) (e : look h.rows n = some z) :
    H T = some (.dK (kvT h.rows)) ∧ HandAt C (upd H T (.dK (putK (kvT h.rows) (Sum.inl n) (V.int c)))) x D T (h.setc n c) ∧ ButH x T H (upd H T (.dK (putK (kvT h.rows) (Sum.inl n) (V.int c)))) := by
  obtain ⟨dx, v, hs, e1, w1, d, t, l⟩ := a
  have tk : TupK H (upd H T (.dK (putK (kvT h.rows) (Sum.inl n) (V.int c)))) := fun b xs eb => (upd_ne (fun q => by rw [q, t] at eb; cases eb)).trans eb
  refine ⟨t, ⟨dx, v, hs, (upd_ne (fun q => by rw [← q, show H x = _ from e1] at t; cases t)).trans e1, w1.tk tk, ru hd d, ?_, (l.tk tk).put n c⟩, fun b o _ n2 eb => (upd_ne n2).trans eb⟩
  rw [upd_same, put_kvT e]
  rfl
def spAns (C : Addr) : Sp := fun vs H Q _ => ∃ (x D T : Addr) (h : Hd) (n k : Int) (z : Rl × Int), vs = [.ref x, .int n, .int k] ∧ HandAt C H x D T h ∧ D ≠ T ∧ look h.rows n = some z ∧ shrd z.1 = true ∧ h.rows.length ≤ 40 ∧ ∀ H' g, ButH x T H H' → HandAt C H' x D T (h.ans n k).1 → BAt H' g (h.ans n k).2 → Q (.ref g) H'
section
variable {P : Program} {w : World} {K : PySem.W.Frag} {mg : Str → Option Value} {base : Heap}
abbrev a_Hand_answers : Stmt := inClass (topS 18) 13
abbrev n_Hand_answers : List Str := ["self", "number", "count", "leave"]
theorem sc_Hand_answers : FnScope n_Hand_answers ["self", "number", "count"] (defScope a_Hand_answers) := ⟨rfl, rfl, rfl, by decide +kernel, rfl, by decide +kernel, by decide +kernel⟩
set_option maxHeartbeats 8000000 in
theorem ok_Hand_answers {f fOw fIo fOt : Addr} {fd fdOw fdIo fdOt : FuncData} {k : Nat} {C : Addr} (F : Fun K "answers" "Hand.answers" a_Hand_answers f fd) (Le : C8.Met P w K mg base 5 C "has_leave" (spLeave C) []) (Ow : Kn P w K mg base 1 "own_side" ["rule", "thing"] spOwnS fOw fdOw) (Io : Kn P w K mg base 2 "is_out_at" ["side", "place"] spOutB fIo fdIo) (Ot : Kn P w K mg base 1 "other_thing" ["rule", "thing"] spOthT fOt fdOt) (X : HandTxt K C)  : FnOk P w K mg base CX0 (k + 6) f fd ["self", "number", "count"] (spAns C) := by
  refine F.ok sc_Hand_answers (fun vs H Q E h => ?_) (fun cdv A outer s H vs Q E hr h => ?_)
  · obtain ⟨x, D, T, h, n, k, z, rfl, _⟩ := h
    rfl
  · obtain ⟨x, D, T, h, n, k, z, rfl, ha, hd, lk0, sh0, l40, q⟩ := h
    refine ⟨_, (C8.pss_cut (ps_if (PW.pt (pw_and (pt_cmpR op_eq (pe_dget (hu_of hr) (pe_fld (pv 0) rfl) (pv 1) (fun _ _ => rfl)) (pv 2) (nomark _)) (pw_and1 (pt_val (C8.pe_mt Le hr (by omega) (pv 0) (pa_cons (pv 1) pa_nil)))))) (pss_one (ps_if (pt_not (pt_val (pe_kn Io hr (by omega) (pa_cons (pe_kn Ow hr (by omega) (pa_cons (pe_dget (hu_of hr) (pe_fld (pv 0) rfl) (pv 1) (fun _ _ => rfl)) (pa_cons (pe_fld (pv 0) rfl) pa_nil))) (pa_cons (pe_fld (pv 0) rfl) pa_nil))))) (pss_one (ps_augS (pe_fld (pv 0) rfl) (pv 1) (get_dictK (hu_of hr)) pe_int ip_add (set_dict (hu_of hr)))) pss_nil)) pss_nil)
      (pss_cons (ps_if (pt_cmpR op_eq (pe_dget (hu_of hr) (pe_fld (pv 0) rfl) (pv 1) (fun _ _ => rfl)) (pv 2) (nomark _)) (pss_one (ps_ret (pe_tup pa_nil))) pss_nil)
      (pss_cons (ps_set (i := 3) sc_Hand_answers.nd rfl (.inl rfl) (pe_tup (pa_cons pe_str (pa_cons (pv 1) (pa_cons (pe_dget (hu_of hr) (pe_fld (pv 0) rfl) (pv 1) (fun _ _ => rfl)) (pa_cons (pe_fld (pv 0) rfl) pa_nil))))))
      (pss_one (ps_ret (pe_tup (pa_cons (pe_tup (pa_cons (pe_kn Ot hr (by omega) (pa_cons (pe_dget (hu_of hr) (pe_fld (pv 0) rfl) (pv 1) (fun _ _ => rfl)) (pa_cons (pe_fld (pv 0) rfl) pa_nil))) (pa_cons (pv 3) pa_nil))) pa_nil))))))), ?_⟩
    obtain ⟨rl, c⟩ := z
    have ha0 := ha
    obtain ⟨tT, hset, bset⟩ := ha.setc (c := c + 1) hd lk0
    obtain ⟨dx, v, hs, e, w1, d, t, l⟩ := ha
    have vt : valV (kvT h.rows) (Sum.inl n) = some (V.int c) := by
      rw [valT, lk0]
      rfl
    have sz : (kvT h.rows).length < sizeLine := by
      unfold kvT
      rw [List.length_map]
      exact small1000 (by omega)
    refine ⟨fun σ H' => σ = [some (.ref x), some (.int n), some (.int k), none] ∧ ButH x T H H' ∧ HandAt C H' x D T (h.hup n (rl, c) k), ?_, fun σ H1 y => ?_⟩
    · unfold Hd.hup Hd.cnd
      refine ⟨.ref x, rfl, x, C, dx, _, _, rfl, e, X.cl, X.n5, lk5, .int n, rfl, T, .int c, rfl, vt ▸ DGet.k (k := .inl n) t, .int k, rfl, rfl, decide (c = k), congrArg V.bl (decide_eq_decide.mpr ⟨fun z => by injection z, fun z => by rw [z]⟩), ?_⟩
      cases h1 : decide (c = k) with
      | false => exact iteF ⟨rfl, fun _ _ _ _ e => e, ha0⟩
      | true =>
      refine iteT ⟨.ref x, rfl, x, dx, _, rfl, e, lkm, .int n, rfl, x, D, T, h, n, rl, c, rfl, ha0, lk0, sh0, fun H1 s1 => ⟨leaveB h.thing rl c, rfl, ?_⟩⟩
      cases h2 : leaveB h.thing rl c with
      | false => exact iteF ⟨rfl, ButH.of s1, ha0.same s1⟩
      | true =>
      rcases valH n (l.keep (.same s1)) with ⟨a1, a2⟩ | ⟨q', c', a, a1, a2, a3⟩
      · rw [lk0] at a1
        cases a1
      rw [lk0] at a1
      cases a1
      refine iteT ⟨.ref x, rfl, x, C, dx, _, _, rfl, s1 _ _ e, X.cl, X.n4, lk4, .int n, rfl, D, .ref a, rfl, a2 ▸ DGr (k := .inl n) (rs s1 d), .ref x, rfl, x, C, dx, _, _, rfl, s1 _ _ e, X.cl, X.n1, lk1, a, rl, h.thing, rfl, a3, fun p1 e1 => ⟨.ref x, rfl, x, C, dx, _, _, rfl, s1 _ _ e, X.cl, X.n2, lk2, p1, _, h.place, rfl, e1, fun H2 s2 => ⟨outB (ownS rl h.thing) h.place, rfl, ?_⟩⟩⟩
      have s02 := s1.trans s2
      cases h3 : outB (ownS rl h.thing) h.place with
      | true => exact iteF ⟨rfl, ButH.of s02, ha0.same s02⟩
      | false =>
        obtain ⟨tT2, hset2, bset2⟩ := (ha0.same s02).setc (c := c + 1) hd lk0
        refine iteT ⟨.ref x, rfl, x, C, dx, _, _, rfl, s02 _ _ e, X.cl, X.n5, lk5, .int n, rfl, T, .int c, rfl, vt ▸ DGet.k (k := .inl n) tT2, c, 1, rfl, rfl, T, _, rfl, DPut.k (k := .inl n) tT2 sz, rfl, (ButH.of s02).trans bset2, hset2⟩
    · obtain ⟨rfl, b1, ha1⟩ := y
      have ha1' := ha1
      have lk1' := look_hup (k := k) lk0
      have q1 := q
      rw [ans_of lk0] at q1
      dsimp only at q1
      have et := hup_thing h n (rl, c) k
      have ew := hup_wish h n (rl, c) k
      generalize h.hup n (rl, c) k = g at ha1 ha1' lk1' et ew q1
      generalize h.cup (rl, c) k = c' at lk1' q1
      obtain ⟨dx1, v1, hs1, e1, w11, d1, t1, l1⟩ := ha1'
      have vt1 : valV (kvT g.rows) (Sum.inl n) = some (V.int c') := by
        rw [valT, lk1']
        rfl
      refine ⟨.ref x, rfl, x, C, dx1, _, _, rfl, e1, X.cl, X.n5, lk5, .int n, rfl, T, .int c', rfl, vt1 ▸ DGet.k (k := .inl n) t1, .int k, rfl, rfl, decide (c' = k), congrArg V.bl (decide_eq_decide.mpr ⟨fun z => by injection z, fun z => by rw [z]⟩), ?_⟩
      by_cases hk : c' = k
      · rw [decide_eq_true hk]
        refine iteT ⟨(show 0 ≤ sizeLine by decide), fun G nG => ?_⟩
        have s2 := same_new (o := HO.tup []) nG
        refine q1 _ G (b1.trans (ButH.of s2)) (ha1.same s2) ?_
        rw [if_pos hk]
        exact ⟨[], upd_same, trivial⟩
      rw [decide_eq_false hk]
      refine iteF ⟨_, rfl, .ref x, rfl, x, C, dx1, _, _, rfl, e1, X.cl, X.n5, lk5, .int n, rfl, T, .int c', rfl, vt1 ▸ DGet.k (k := .inl n) t1, .ref x, rfl, x, C, dx1, _, _, rfl, e1, X.cl, X.n3, lk3, (show 4 ≤ sizeLine by decide), fun L nL => ?_⟩
      have sL := same_new (o := HO.tup [V.str "leave", V.int n, V.int c', v1]) nL
      have eL : LetAt (upd H1 L (.tup [V.str "leave", V.int n, V.int c', v1])) L ("leave", [n, c'], h.wish) := ⟨v1, upd_same, ew ▸ w11.tk (tk_same sL)⟩
      have ha2 := ha1.same sL
      have b2 := b1.trans (ButH.of (x := x) (T := T) sL)
      have e2 := sL _ _ e1
      have d2 := rs sL d1
      have l2 := l1.tk (tk_same sL)
      generalize upd H1 L (.tup [V.str "leave", V.int n, V.int c', v1]) = H2 at eL ha2 b2 e2 d2 l2 ⊢
      rcases valH n l2 with ⟨a1, a2⟩ | ⟨q', c2, a, a1, a2, a3⟩
      · rw [lk1'] at a1
        cases a1
      rw [lk1'] at a1
      cases a1
      dsimp only [List.set]
      refine ⟨.ref x, rfl, x, C, dx1, _, _, rfl, e2, X.cl, X.n4, lk4, .int n, rfl, D, .ref a, rfl, a2 ▸ DGr (k := .inl n) d2, .ref x, rfl, x, C, dx1, _, _, rfl, e2, X.cl, X.n1, lk1, a, rl, g.thing, rfl, a3, _, rfl, (show 2 ≤ sizeLine by decide), fun M nM => ⟨(show 1 ≤ sizeLine by decide), fun G nG => ?_⟩⟩
      have sM := same_new (o := HO.tup [V.int (othT rl g.thing : Nat), V.ref L]) nM
      have sG := same_new (o := HO.tup [V.ref M]) nG
      have s2 := sM.trans sG
      refine q1 _ G (b2.trans (ButH.of s2)) (ha2.same s2) ?_
      rw [if_neg hk]
      refine ⟨[M], upd_same, ⟨L, ?_, eL.tk (tk_same s2)⟩, trivial⟩
      rw [et] at sG ⊢
      exact sG _ _ upd_same
end
end K64

set_option Elab.async false
set_option linter.all false
set_option maxRecDepth 100000
namespace K64
open PySem PySem.Spec PyProof.Rows L2 NB

theorem cut_to {K : PySem.W.Frag} {H : Hp} {p : Addr} {vs : List V} {c : Nat} {Q : VK} (h : H p = some (.tup vs)) (hc : c ≤ vs.length) (q : ∀ g H', Same H H' → H' g = some (.tup (vs.take c)) → Q (.ref g) H') : rSlA K (.ref p) none (some (c : Int)) H Q := by
  have e1 : HT.sIx vs.length vs.length (some (c : Int)) = c := by
    rw [HT.sIx_nat]
    omega
  refine ⟨p, _, rfl, .inl (.inl h), fun w => ?_, fun w g ng => ?_⟩
  · rw [e1] at w
    refine q p H (Same.refl H) ?_
    rw [List.take_of_length_le (by omega)]
    exact h
  · refine q g _ (same_new ng) ?_
    rw [upd_same]
    unfold cutV
    rw [e1, HT.sIx_none, List.drop_zero]
    rfl
theorem ixN_last (n : Nat) : ixN (n + 1) (-1) = some n := by
  unfold ixN
  rw [if_neg (by omega), if_pos (by omega)]
  congr 1
  omega
theorem at_last {α : Type} (xs : List α) (x : α) : atI (xs ++ [x]) (-1) = some x := by
  unfold atI
  rw [List.length_append]
  show (ixN (xs.length + 1) (-1)).bind _ = _
  rw [ixN_last]
  show (xs ++ [x])[xs.length]? = some x
  rw [List.getElem?_append_right (Nat.le_refl _), Nat.sub_self]
  rfl

/-! ### a hand hears -/
def Hd.hw (h : Hd) (o : Option Wi) : Hd := if wishN o > wishN h.wish then { h with wish := o } else h
def mx (i j : Int) : Int := if j > i then j else i
def Hd.hear2 (h : Hd) (a : Str) (o : Option Wi) (n k : Int) (z : Rl × Int) : Hd × List Bt :=
  if (decide (a = "leave") || decide (wishN o < wishN h.wish)) = true then (h.setc n (mx z.2 k), []) else (h.setc n (mx z.2 k)).ans n k
def Hd.hear (h : Hd) (l : Lt) : Hd × List Bt := match l.2.1 with
  | [n, k] => match look h.rows n with
    | some z => if shrd z.1 = true then (h.hw l.2.2).hear2 l.1 l.2.2 n k z else (h.hw l.2.2, [])
    | none => (h.hw l.2.2, [])
  | _ => (h.hw l.2.2, [])
theorem hw_rows (h : Hd) (o : Option Wi) : (h.hw o).rows = h.rows := by unfold Hd.hw; split <;> rfl
theorem hw_thing (h : Hd) (o : Option Wi) : (h.hw o).thing = h.thing := by unfold Hd.hw; split <;> rfl
theorem put_wish (i p v d t u : V) : putF "wish" u [("thing", i), ("place", p), ("wish", v), ("held", d), ("tally", t)] = ([("thing", i), ("place", p), ("wish", u), ("held", d), ("tally", t)] : List (Str × V)) := by
  have n1 : ¬ (("thing" : Str) = "wish") := by decide +kernel
  have n2 : ¬ (("place" : Str) = "wish") := by decide +kernel
  simp [putF, n1, n2]
theorem HandAt.wish {C : Addr} {H : Hp} {x D T dx : Addr} {h : Hd} {v u : V} {hs : List (Int × Addr)} {o : Option Wi} (e : HandF C H x dx v D T h) (d : Rd H D (.dK (kvH hs))) (t : H T = some (.dK (kvT h.rows))) (l : Held H hs h.rows) (w : WV H u o) :
    HandAt C (upd H x (.ins C dx [("thing", .int (h.thing : Int)), ("place", .int h.place), ("wish", u), ("held", .ref D), ("tally", .ref T)])) x D T { h with wish := o } ∧ ButH x T H (upd H x (.ins C dx [("thing", .int (h.thing : Int)), ("place", .int h.place), ("wish", u), ("held", .ref D), ("tally", .ref T)])) := by
  have e' : H x = some (.ins C dx [("thing", .int (h.thing : Int)), ("place", .int h.place), ("wish", v), ("held", .ref D), ("tally", .ref T)]) := e
  have tk : TupK H (upd H x (.ins C dx [("thing", .int (h.thing : Int)), ("place", .int h.place), ("wish", u), ("held", .ref D), ("tally", .ref T)])) := fun b xs eb => (upd_ne (fun q => by rw [q, e'] at eb; cases eb)).trans eb
  exact ⟨⟨dx, u, hs, upd_same, w.tk tk, ru (rn d e') d, (upd_ne (fun q => by rw [q, e'] at t; cases t)).trans t, l.tk tk⟩, fun b o n1 _ eb => (upd_ne n1).trans eb⟩
theorem dstr {a b : Str} : decide (V.str a = V.str b) = decide (a = b) := decide_eq_decide.mpr ⟨fun h => by injection h, congrArg _⟩
theorem hear_none {h : Hd} {l : Lt} (e : l.2.1 = []) : h.hear l = (h.hw l.2.2, ([] : List Bt)) := by
  unfold Hd.hear
  rw [e]
theorem hear_two {h : Hd} {a : Str} {n k : Int} {o : Option Wi} : h.hear (a, [n, k], o) = (match look h.rows n with
    | some z => if shrd z.1 = true then (h.hw o).hear2 a o n k z else (h.hw o, [])
    | none => (h.hw o, [])) := rfl
def spHear (C : Addr) : Sp := fun vs H Q _ => ∃ (x D T g : Addr) (h : Hd) (l : Lt), vs = [.ref x, .ref g] ∧ HandAt C H x D T h ∧ D ≠ T ∧ LetAt H g l ∧ LetP l ∧ (∀ w, l.2.2 = some w → h.thing < w.2.length) ∧ h.rows.length ≤ 40 ∧ ∀ H' a, ButH x T H H' → HandAt C H' x D T (h.hear l).1 → BAt H' a (h.hear l).2 → Q (.ref a) H'
section
variable {P : Program} {w : World} {K : PySem.W.Frag} {mg : Str → Option Value} {base : Heap}
abbrev a_Hand_hear : Stmt := inClass (topS 18) 11
abbrev n_Hand_hear : List Str := ["self", "letter", "wish", "word", "number", "count"]
theorem sc_Hand_hear : FnScope n_Hand_hear ["self", "letter"] (defScope a_Hand_hear) := ⟨rfl, rfl, rfl, by decide +kernel, rfl, by decide +kernel, by decide +kernel⟩
set_option maxHeartbeats 8000000 in
theorem ok_Hand_hear {f fIl fWn : Addr} {fd fdIl fdWn : FuncData} {k : Nat} {C : Addr} (F : Fun K "hear" "Hand.hear" a_Hand_hear f fd) (Il : Kn P w K mg base 4 "is_letter" ["thing"] (spLook letterD) fIl fdIl) (Hpl : C8.Met P w K mg base 1 C "has_place" (spHasPl C) []) (Wn : Kn P w K mg base 1 "wish_number" ["wish"] spWishN fWn fdWn) (Sh : C8.Met P w K mg base 3 C "shares" (spShares C) []) (An : C8.Met P w K mg base 6 C "answers" (spAns C) []) (X : HandTxt K C) (m_max : mg "max" = none) : FnOk P w K mg base CX0 (k + 7) f fd ["self", "letter"] (spHear C) := by
  refine F.ok sc_Hand_hear (fun vs H Q E h => ?_) (fun cdv A outer s H vs Q E hr h => ?_)
  · obtain ⟨x, D, T, g, h, l, rfl, _⟩ := h
    rfl
  · obtain ⟨x, D, T, g, h, l, rfl, ha, hd, hl, lp, hw, l40, q⟩ := h
    refine ⟨_, (pss_cons (ps_if (PW.pt (pw_or (pt_not (pt_val (pe_kn Il hr (by omega) (pa_cons (pv 1) pa_nil)))) (pw_or1 (pt_not (pt_val (C8.pe_mt Hpl hr (by omega) (pv 0) (pa_cons (pe_ix ix_tup (pv 1) (pe_un un_neg pe_int) (fun _ _ => rfl)) pa_nil))))))) (pss_one (ps_never)) pss_nil)
      (pss_cons (ps_set (i := 2) sc_Hand_hear.nd rfl (.inl rfl) (pe_ix ix_tup (pv 1) (pe_un un_neg pe_int) (fun _ _ => rfl)))
      (C8.pss_cut (ps_if (pt_cmpR op_gt (pe_kn Wn hr (by omega) (pa_cons (pv 2) pa_nil)) (pe_kn Wn hr (by omega) (pa_cons (pe_fld (pv 0) rfl) pa_nil)) (nomark _)) (pss_one (ps_fld (pv 0) (pv 2) rfl)) pss_nil)
      (pss_cons (ps_if (PW.pt (pw_or (pt_cmpR op_eq (pe_ix ix_tup (pv 1) pe_int (fun _ _ => rfl)) pe_str (nomark _)) (pw_or1 (pt_not (pt_val (C8.pe_mt Sh hr (by omega) (pv 0) (pa_cons (pe_ix ix_tup (pv 1) pe_int (fun _ _ => rfl)) pa_nil))))))) (pss_one (ps_ret (pe_tup pa_nil))) pss_nil)
      (pss_cons (ps_asg (pe_slice (r := rSlA K) sl_tupA (pv 1) po_none (po_some pe_int)) (pg_tup rfl (pgs_cons (pg_name (i := 3) sc_Hand_hear.nd rfl (.inl rfl)) (pgs_cons (pg_name (i := 4) sc_Hand_hear.nd rfl (.inl rfl)) (pgs_cons (pg_name (i := 5) sc_Hand_hear.nd rfl (.inl rfl)) pgs_nil)))))
      (pss_cons (ps_asg (pe_callB (call_max2 rfl) (by rfl) m_max (by decide +kernel) (pa_cons (pe_dget (hu_of hr) (pe_fld (pv 0) rfl) (pv 4) (fun _ _ => rfl)) (pa_cons (pv 5) pa_nil))) (pg_sub (pe_fld (pv 0) rfl) (pv 4) (set_dict (hu_of hr))))
      (pss_cons (ps_if (PW.pt (pw_or (pt_cmpR op_eq (pv 3) pe_str (nomark _)) (pw_or1 (pt_cmpR op_lt (pe_kn Wn hr (by omega) (pa_cons (pv 2) pa_nil)) (pe_kn Wn hr (by omega) (pa_cons (pe_fld (pv 0) rfl) pa_nil)) (nomark _))))) (pss_one (ps_ret (pe_tup pa_nil))) pss_nil)
      (pss_one (ps_ret (C8.pe_mt An hr (by omega) (pv 0) (pa_cons (pv 4) (pa_cons (pv 5) pa_nil)))))))))))), ?_⟩
    have ha0 := ha
    have hl0 := hl
    obtain ⟨dx, v, hs, e, w1, d, t, ld⟩ := ha
    obtain ⟨u, eg, wu⟩ := hl
    have hpt : (match l.2.2 with | none => true | some w => decide (h.thing < w.2.length)) = true := by
      cases ho : l.2.2 with
      | none => rfl
      | some w => exact decide_eq_true (hw w ho)
    refine ⟨_, rfl, 0, .ref g, _, rfl, da_let (n := 0) hl0, fun H1 s1 => ⟨true, congrArg V.bl (let_isD lp), iteF ?_⟩⟩
    have e1 := s1 _ _ e
    have eg1 := s1 _ _ eg
    have wu1 := wu.tk (tk_same s1)
    have d1 := rs s1 d
    have t1 := s1 _ _ t
    have ld1 := ld.tk (tk_same s1)
    refine ⟨.ref x, rfl, x, dx, _, rfl, e1, lkm, .ref g, rfl, 1, rfl, g, _, -1, u, rfl, rfl, .inl (.inl eg1), at_last (V.str l.1 :: l.2.1.map V.int) u, x, D, T, h, u, l.2.2, rfl, ha0.same s1, wu1, true, congrArg V.bl hpt, iteF ?_⟩
    refine ⟨.ref g, rfl, 1, rfl, g, _, -1, u, rfl, rfl, .inl (.inl eg1), at_last (V.str l.1 :: l.2.1.map V.int) u, ?_⟩
    dsimp only [List.set]
    refine ⟨fun σ H' => σ = [some (.ref x), some (.ref g), some u, none, none, none] ∧ ButH x T H1 H' ∧ HandAt C H' x D T (h.hw l.2.2), ?_, fun σ H2 y => ?_⟩
    · refine ⟨_, rfl, u, l.2.2, rfl, wu1, .ref x, rfl, x, C, dx, _, _, rfl, e1, X.cl, X.n3, lk3, v, h.wish, rfl, w1.tk (tk_same s1), _, _, rfl, rfl, _, rfl, ite2 (fun c => ?_) (fun c => ?_)⟩
      · have c' := of_decide_eq_true c
        obtain ⟨a1, a2⟩ := HandAt.wish e1 d1 t1 ld1 wu1
        refine ⟨_, rfl, .ref x, rfl, x, C, dx, _, rfl, e1, X.cl, X.n3, (show 5 < 1000 by decide), ?_⟩
        rw [put_wish]
        refine ⟨rfl, a2, ?_⟩
        unfold Hd.hw
        rw [if_pos c']
        exact a1
      · have c' := of_decide_eq_false (Bool.eq_false_iff.mpr c)
        refine ⟨rfl, fun _ _ _ _ e => e, ?_⟩
        unfold Hd.hw
        rw [if_neg c']
        exact ha0.same s1
    obtain ⟨rfl, b2, ha2⟩ := y
    have b02 : ButH x T H H2 := (ButH.of s1).trans b2
    have tk2 := b02.tk ha0
    have eg2 := tk2 _ _ eg
    have wu2 := wu.tk tk2
    obtain ⟨a, ns, o⟩ := l
    rcases lp.1 with ⟨hw2, h2⟩ | ⟨hw2, h0, hn⟩
    · match ns, h2 with
      | [n, k], _ =>
      have hne : ¬ a = "word" := fun z => by
        rcases hw2 with h | h
        · have h' : a = "ask" := h
          rw [z] at h'
          exact absurd h' (by decide +kernel)
        · have h' : a = "leave" := h
          rw [z] at h'
          exact absurd h' (by decide +kernel)
      rw [hear_two] at q
      have hrw := hw_rows h o
      have hth := hw_thing h o
      dsimp only at ha2 wu2 eg2
      generalize h.hw o = g1 at ha2 hrw hth q
      have ha2' := ha2
      obtain ⟨dx2, v2, hs2, e2, w2, d2, t2, l2⟩ := ha2'
      refine ⟨.ref g, rfl, g, _, 0, .str a, rfl, rfl, .inl (.inl eg2), atI_nat (j := 0) rfl, rfl, decide (a = "word"), congrArg V.bl dstr, ?_⟩
      rw [decide_eq_false hne]
      refine iteF ⟨.ref x, rfl, x, dx2, _, rfl, e2, lkm, .ref g, rfl, g, _, 1, .int n, rfl, rfl, .inl (.inl eg2), atI_nat (j := 1) rfl, x, D, T, g1, n, rfl, ha2, fun H3 s3 => ?_⟩
      have b03 := b02.trans (ButH.of (x := x) (T := T) s3)
      have ha3 := ha2.same s3
      cases hsh : g1.shares n with
      | false =>
        refine ⟨false, rfl, iteT ⟨(show 0 ≤ sizeLine by decide), fun G nG => ?_⟩⟩
        have sG := same_new (o := HO.tup []) nG
        have eq0 : (match look h.rows n with | some z => if shrd z.1 = true then g1.hear2 a o n k z else (g1, []) | none => (g1, [])) = (g1, ([] : List Bt)) := by
          unfold Hd.shares at hsh
          rw [hrw] at hsh
          cases hz : look h.rows n with
          | none => rfl
          | some z =>
            rw [hz] at hsh
            show (if shrd z.1 = true then _ else _) = _
            rw [if_neg (by rw [show shrd z.1 = false from hsh]; decide)]
        rw [eq0] at q
        exact q _ G (b03.trans (ButH.of sG)) (ha3.same sG) ⟨[], upd_same, trivial⟩
      | true =>
        refine ⟨true, rfl, iteF ?_⟩
        obtain ⟨z, hz, hzs⟩ : ∃ z, look h.rows n = some z ∧ shrd z.1 = true := by
          unfold Hd.shares at hsh
          rw [hrw] at hsh
          cases hz : look h.rows n with
          | none =>
            rw [hz] at hsh
            cases hsh
          | some z =>
            rw [hz] at hsh
            exact ⟨z, rfl, hsh⟩
        rw [hz] at q
        have q : ∀ (H' : L2.Hp) (b : Addr), ButH x T H H' → HandAt C H' x D T (g1.hear2 a o n k z).1 → BAt H' b (g1.hear2 a o n k z).2 → Q (.ref b) H' := by
          have : (if shrd z.1 = true then g1.hear2 a o n k z else (g1, ([] : List Bt))) = g1.hear2 a o n k z := if_pos hzs
          simp only [this] at q
          exact q
        have hz1 : look g1.rows n = some z := by rw [hrw]; exact hz
        have eg3 := s3 _ _ eg2
        refine ⟨.ref g, rfl, ?_⟩
        show tNoPart _ _ _
        unfold tNoPart
        refine ⟨3, rfl, cut_to (c := 3) eg3 (show 3 ≤ 4 by decide) fun W H4 s4 eW => ?_⟩
        refine ⟨W, _, rfl, .inl (.inl eW), rfl, _, _, rfl, _, _, rfl, _, _, rfl, rfl, ?_⟩
        dsimp only [List.set]
        have ha4 := ha3.same s4
        have b04 := b03.trans (ButH.of (x := x) (T := T) s4)
        have ha4' := ha4
        obtain ⟨dx4, v4, hs4, e4, w4, d4, t4, l4⟩ := ha4'
        have vt4 : valV (kvT g1.rows) (Sum.inl n) = some (V.int z.2) := by
          rw [valT, hz1]
          rfl
        have sz : (kvT g1.rows).length < sizeLine := by
          unfold kvT
          rw [List.length_map, hrw]
          exact small1000 (by omega)
        obtain ⟨tT5, ha5, b5⟩ := ha4.setc (c := mx z.2 k) hd hz1
        refine ⟨.ref x, rfl, x, C, dx4, _, _, rfl, e4, X.cl, X.n5, lk5, .int n, rfl, T, .int z.2, rfl, vt4 ▸ DGet.k (k := .inl n) t4, .int k, rfl, z.2, k, rfl, .ref x, rfl, x, C, dx4, _, _, rfl, e4, X.cl, X.n5, lk5, .int n, rfl, T, _, rfl, DPut.k (k := .inl n) tT5 sz, ?_⟩
        have b05 := b04.trans b5
        have wu5 := wu.tk (b05.tk ha0)
        have e0 : upd H4 T (.dK (putK (kvT g1.rows) (Sum.inl n) (V.int (if k > z.2 then k else z.2)))) = upd H4 T (.dK (putK (kvT g1.rows) (Sum.inl n) (V.int (mx z.2 k)))) := rfl
        rw [e0]
        generalize upd H4 T (.dK (putK (kvT g1.rows) (Sum.inl n) (V.int (mx z.2 k)))) = H5 at ha5 b5 b05 wu5 ⊢
        have hz5 : look (g1.setc n (mx z.2 k)).rows n = some (z.1, mx z.2 k) := by
          show look (putC g1.rows n (mx z.2 k)) n = _
          rw [look_put, hz1]
          simp
        have len5 : (g1.setc n (mx z.2 k)).rows.length ≤ 40 := by
          show (putC g1.rows n (mx z.2 k)).length ≤ 40
          unfold putC
          rw [List.length_map, hrw]
          exact l40
        unfold Hd.hear2 at q
        have ha5' := ha5
        obtain ⟨dx5, v5, hs5, e5, w5, d5, t5, l5⟩ := ha5'
        have stop : (decide (a = "leave") || decide (wishN o < wishN g1.wish)) = true → ∀ G, H5 G = none → Q (.ref G) (upd H5 G (.tup [])) := fun hc G nG => by
          have sG := same_new (o := HO.tup []) nG
          rw [if_pos hc] at q
          exact q _ G (b05.trans (ButH.of sG)) (ha5.same sG) ⟨[], upd_same, trivial⟩
        refine ⟨_, rfl, rfl, decide (a = "leave"), congrArg V.bl dstr, ?_⟩
        cases hlv : decide (a = "leave") with
        | true => exact iteT ⟨(show 0 ≤ sizeLine by decide), stop (by rw [hlv]; rfl)⟩
        | false =>
        refine iteF ⟨_, rfl, u, o, rfl, wu5, .ref x, rfl, x, C, dx5, _, _, rfl, e5, X.cl, X.n3, lk3, v5, g1.wish, rfl, w5, _, _, rfl, rfl, _, rfl, ite2 (fun c => ?_) (fun c => ?_)⟩
        · exact ⟨(show 0 ≤ sizeLine by decide), stop (by rw [hlv, Bool.false_or]; exact c)⟩
        · have c' : decide (wishN o < wishN g1.wish) = false := Bool.eq_false_iff.mpr c
          rw [hlv, c', if_neg (by decide)] at q
          exact ⟨.ref x, rfl, x, dx5, _, rfl, e5, lkm, .int n, rfl, .int k, rfl, x, D, T, g1.setc n (mx z.2 k), n, k, (z.1, mx z.2 k), rfl, ha5, hd, hz5, hzs, len5, fun H6 b b6 h6 t6 => q H6 b (b05.trans b6) h6 t6⟩
    · have h0' : ns = [] := h0
      subst h0'
      have hwd : a = "word" := hw2
      rw [hear_none rfl] at q
      refine ⟨.ref g, rfl, g, _, 0, .str a, rfl, rfl, .inl (.inl eg2), atI_nat (j := 0) rfl, rfl, decide (a = "word"), congrArg V.bl dstr, ?_⟩
      rw [decide_eq_true hwd]
      refine iteT ⟨(show 0 ≤ sizeLine by decide), fun G nG => ?_⟩
      have sG := same_new (o := HO.tup []) nG
      exact q _ G (b02.trans (ButH.of sG)) (ha2.same sG) ⟨[], upd_same, trivial⟩
end
end K64

set_option Elab.async false
set_option linter.all false
set_option maxRecDepth 100000
set_option maxHeartbeats 4000000
/-! set of a list of ints. -/
namespace NB
open PySem PySem.Spec PyProof.Rows L2
section
variable {P : Program} {w : World} {A : Around} {E : Value → Shared → Prop} {s : Shared}
/-- a set with nothing in it -/
abbrev emI (w : World) : Obj := { cls := .type "set", dict := none, data := .set #[] 0 (.fresh 0 0 (!w.params.followText "set-order")) }
theorem setLstI {l : Addr} {xs : Array Value} (ns : List Int) {Q : Value → Shared → Prop} (nh : A.handled = none) (tl : s.heap.IsList l xs) (ia : IntsAre xs.toList ns) (few : ns.length + 1 < scanBound)
    (q : ∀ (h' : Heap) (tk c : Nat), SetR w h' s.heap.objs.size (fun j => decide (j ∈ ns)) c → c ≤ ns.length → (∀ b o, s.heap.get? b = some o → h'.get? b = some o) → Q (.ref s.heap.objs.size) { s with heap := h', toks := tk }) :
    wpAny (model P w) A (call (.type "set") [.ref l]) Q E s := by
  have n1 : xs.size = ns.length := by
    rw [← Array.length_toList, IntsAre.length ia]
  -- the call of the type
  obtain ⟨_, _, mro⟩ := F.called_set.mro
  have a1 := F.called_set.made
  have a2 := F.called_set.sub
  have a3 := F.called_set.notType
  have a4 := F.called_set.canCreate
  have a5 := F.typeCall_set_1 (.ref l)
  refine wpAny_call (codeAny_of_tree ?_)
  show wpAny _ _ (callAny (.type "set") _) _ _ _
  refine wpAny_pure ⟨Code.quiet_builtin _ (by decide +kernel), codeAny_builtin F.entry_type_call ?_⟩
  rw [Around.under_plain (weight_type_call_type "set" [.ref l] []) rfl]
  repeat (any_goals (first | assumption | wp_step))
  generalize hN : s.heap.objs.size = N at q ⊢
  refine codeAny_mono (code_set_led1 (.ref l) (E := E) (Q₁ := fun b u => b = .ref N ∧ u = { s with heap := s.heap.push (emI w) }) ⟨by rw [hN], rfl⟩) fun r u hr => ?_
  match r, hr with
  | .error _, hr => exact hr
  | .ok (.ret b), hr =>
    obtain ⟨rfl, rfl⟩ := hr
    have gN : (s.heap.push (emI w)).get? N = some (emI w) := hN ▸ Heap.get?_push_size _ rfl
    have tN : Shared.TypeIs { s with heap := s.heap.push (emI w) } (.ref N) "set" := ⟨_, gN, rfl⟩
    have b1 := F.called_set.init.lookup
    have b2 := F.called_set.init.bind (.ref N)
    repeat (any_goals (first | assumption | wp_step))
    refine codeAny_mono (codeAny_call_builtin (R := wants (fun r u => r = .none ∧ ∃ h' tk c, u = { s with heap := h', toks := tk } ∧ SetR w h' N (fun j => decide (j ∈ ns)) c ∧ c ≤ ns.length ∧ ∀ b o, s.heap.get? b = some o → h'.get? b = some o) E) F.called_set.init.plain F.entry_set_init (check_set_init_1 tN ?_)) fun r2 u2 hr2 => ?_
    · obtain ⟨⟨oc, od, ob, os⟩, ho, hc, nn, hd⟩ := tl
      simp only at hc hd
      subst hc
      subst hd
      have lN : l < N := hN ▸ Heap.lt_size ho
      have g1 : (s.heap.push (emI w)).get? l = some { cls := .type "list", dict := od, data := .seq xs nn, slots := os } := Heap.get?_push_of_some _ ho
      have t1 : (s.heap.push (emI w)).IsList l xs := ⟨_, g1, rfl, nn, rfl⟩
      have sz : (s.heap.push (emI w)).objs.size = N + 1 := by rw [Heap.size_push, hN]
      have c1 := F.sub_list_set
      have c2 := F.sub_list_frozenset
      have c3 : (Value.type "list" == Value.type "dict") = false := by decide
      unfold Builtin.«set.__init__» noKeywords Builtin.Frozenset.updateFrom
      generalize eP : pyIter = PI
      wp_walk
      subst eP
      refine wpAny_pyIter_list t1 ?_
      refine wpAny_bind (wpAny_runValue ?_)
      have ln : l ≠ (s.heap.push (emI w)).objs.size := by
        rw [sz]
        exact Nat.ne_of_lt (Nat.lt_succ_of_lt lN)
      have nf : N ∉ [(s.heap.push (emI w)).objs.size, l] := by
        rw [sz]
        simp only [List.mem_cons, List.not_mem_nil, or_false, not_or]
        exact ⟨Nat.ne_of_lt (Nat.lt_succ_self _), Nat.ne_of_gt lN⟩
      refine set_update_ints ((Walks.list (by simp [nh]) _ l ln xs).toS) N nf ns n1 few (fun i v hv => ?_) (xs.size - 0) 0 _ (by omega) (Nat.zero_le _) ⟨⟨_, Heap.get?_push_size _ rfl, rfl, rfl⟩, t1.push _⟩ ?i0 ?i1
      · have hi : i < ns.length := by
          rw [← n1]
          exact (Array.getElem?_eq_some_iff.mp hv).1
        obtain ⟨t, e⟩ := PyProof.Rows.IntsAre.int_at ia i v (by rw [Array.getElem?_toList]; exact hv)
        refine ⟨ns[i], t, List.getElem?_eq_getElem hi, ?_⟩
        rw [e, List.getD_eq_getElem?_getD, List.getElem?_eq_getElem hi]
        rfl
      case i0 => exact ⟨0, Nat.le_refl 0, setR_new_at (Heap.get?_push_of_some _ gN)⟩
      case i1 =>
        intro u c mv hc R
        obtain ⟨h', gg, dd, tk, oo⟩ := u
        obtain rfl : gg = s.gens := mv.gens
        obtain rfl : dd = s.drawn := mv.drawn
        obtain rfl : oo = s.os := mv.os
        rw [n1] at hc
        show wpAny _ _ _ _ _ _
        refine wpAny_pure ?_
        show wpAny _ _ (ret Value.none) _ _ _
        refine wpAny_pure ⟨rfl, h', tk, c, rfl, R, hc, fun b o e => mv.heap b o ?_ (Heap.get?_push_of_some _ (Heap.get?_push_of_some _ e))⟩
        have b0 := Heap.lt_size e
        rw [hN] at b0
        rw [sz]
        simp only [List.mem_cons, List.not_mem_nil, or_false, not_or]
        exact ⟨Nat.ne_of_lt b0, Nat.ne_of_lt (Nat.lt_succ_of_lt b0)⟩
    · match r2, hr2 with
      | .error _, hr2 => exact hr2
      | .ok (.ret _), hr2 =>
        obtain ⟨rfl, h', tk, c, rfl, R, hc, kp⟩ := hr2
        repeat (any_goals (first | assumption | wp_step))
        exact q _ _ _ R hc kp
end
section
variable {X : Cx}
/-- set(xs), xs a list of ints -/
def rSetLstI (K : PySem.W.Frag) (w : World) : List V → Hp → VK → Prop := fun xs H Q => ∃ (l : Addr) (ns : List Int), xs = [V.ref l] ∧ SqL K H l (ns.map V.int) ∧ ns.length < 64 ∧
  ∀ a c, H a = none → c ≤ ns.length → Q (.ref a) (upd H a (SetO w a (fun j => decide (j ∈ ns)) c))
theorem ints_of_vals : ∀ {ns : List Int} {us : List Value}, Vals (ns.map V.int) us → IntsAre us ns
  | [], _, .nil => .nil
  | n :: ns, _, .cons r t => by
    obtain ⟨tk, rfl⟩ := r
    exact .cons n tk (ints_of_vals t)
theorem cr_setLstI (hc : X.calm = true) : CallR X (.type "set") (rSetLstI X.K X.w) := by
  intro pins s σ H xs us Q I r ⟨l, ns, e, hl, few, q⟩
  subst e
  rw [Vals.ref1 r]
  obtain ⟨its, rv, pl, _⟩ := I.list hl
  have hn : H s.heap.objs.size = none := I.hok.fresh (Nat.le_refl _)
  refine setLstI (P := X.prog) (w := X.w) (xs := its.toArray) ns (I.ok.hd hc) pl.isList (ints_of_vals (by simpa using rv)) (by unfold scanBound; omega) fun h' tk c R hcn kp => ?_
  exact ⟨.ref s.heap.objs.size, _, I.laid (t' := tk) kp (Nat.le_refl _) (setO_new R), rfl, q _ c hn hcn⟩
end
end NB

set_option Elab.async false
set_option linter.all false
set_option maxRecDepth 100000
namespace K64
open PySem PySem.Spec PyProof.Rows L2 NB

/-! ### what a hand writes by itself -/
theorem BtAt.app {H : Hp} {a : Addr} {b : Bt} (p : PrAt H a b) : ∀ {as : List Addr} {bs : List Bt}, BtAt H as bs → BtAt H (as ++ [a]) (bs ++ [b])
  | [], [], _ => ⟨p, trivial⟩
  | _ :: _, _ :: _, ⟨x, c⟩ => ⟨x, c.app p⟩
  | [], _ :: _, h => h.elim
  | _ :: _, [], h => h.elim
theorem BtAt.cat {H : Hp} {as' : List Addr} {bs' : List Bt} (p : BtAt H as' bs') : ∀ {as : List Addr} {bs : List Bt}, BtAt H as bs → BtAt H (as ++ as') (bs ++ bs')
  | [], [], _ => p
  | _ :: _, _ :: _, ⟨x, c⟩ => ⟨x, BtAt.cat p c⟩
  | [], _ :: _, h => h.elim
  | _ :: _, [], h => h.elim
theorem BtAt.len {H : Hp} : ∀ {as : List Addr} {bs : List Bt}, BtAt H as bs → as.length = bs.length
  | [], [], _ => rfl
  | _ :: _, _ :: _, ⟨_, c⟩ => by rw [List.length_cons, List.length_cons, c.len]
  | [], _ :: _, h => h.elim
  | _ :: _, [], h => h.elim
def Hd.othN (h : Hd) (n : Int) : Int := match look h.rows n with
  | some z => (othT z.1 h.thing : Nat)
  | none => 0
def Hd.cntN (h : Hd) (n : Int) : Int := match look h.rows n with
  | some z => z.2
  | none => 0
def Hd.asks (h : Hd) (ys : List Int) : List Bt := ys.map fun n => (h.othN n, (("ask" : Str), [n, h.cntN n], h.wish))
def Hd.words (h : Hd) (ts : List Int) : List Bt := ts.map fun k => (k, (("word" : Str), [], h.wish))
def BtL (h : Hd) (bs : List Bt) : Prop := ∃ ys, LkL h ys ∧ ((h.wish = none ∧ bs = h.asks ys) ∨ (h.wish ≠ none ∧ ∃ ss ts, ShL h ss ∧ ts.Pairwise (· < ·) ∧ (∀ k, k ∈ ts ↔ k ∈ ss.map h.othN) ∧ bs = h.asks ys ++ h.words ts))
def spBeat (C : Addr) : Sp := fun vs H Q _ => ∃ (x D T : Addr) (h : Hd), vs = [.ref x] ∧ HandAt C H x D T h ∧ h.rows.length ≤ 40 ∧ (∀ w, h.wish = some w → h.thing < w.2.length) ∧ ∀ H' g bs, Same H H' → BAt H' g bs → BtL h bs → Q (.ref g) H'
section
variable {P : Program} {w : World} {K : PySem.W.Frag} {mg : Str → Option Value} {base : Heap}
abbrev a_Hand_beat : Stmt := inClass (topS 18) 10
abbrev n_Hand_beat : List Str := ["self", "found", "number", "things", "thing"]
theorem sc_Hand_beat : FnScope n_Hand_beat ["self"] (defScope a_Hand_beat) := ⟨rfl, rfl, rfl, by decide +kernel, rfl, by decide +kernel, by decide +kernel⟩
set_option maxHeartbeats 8000000 in
theorem ok_Hand_beat {f fOt : Addr} {fd fdOt : FuncData} {k : Nat} {C : Addr} (F : Fun K "beat" "Hand.beat" a_Hand_beat f fd) (Lk : C8.Met P w K mg base 6 C "lacks" (spLkL C) []) (Sd1 : C8.Met P w K mg base 2 C "shared" (spShL C) []) (Ot : Kn P w K mg base 1 "other_thing" ["rule", "thing"] spOthT fOt fdOt) (X : HandTxt K C) (m_set : mg "set" = none) (m_sorted : mg "sorted" = none) (m_tuple : mg "tuple" = none) : FnOk P w K mg base CX0 (k + 7) f fd ["self"] (spBeat C) := by
  refine F.ok sc_Hand_beat (fun vs H Q E h => ?_) (fun cdv A outer s H vs Q E hr h => ?_)
  · obtain ⟨x, D, T, h, rfl, _⟩ := h
    rfl
  · obtain ⟨x, D, T, h, rfl, ha, l40, hw, q⟩ := h
    refine ⟨_, (pss_cons (ps_set (i := 1) sc_Hand_beat.nd rfl (.inl rfl) (pe_lst pa_nil))
      (pss_cons (ps_for PassesOwn.never rfl (pi_tup (C8.pe_mt0 Lk hr (by omega) (pv 0))) (pg_name (i := 2) sc_Hand_beat.nd rfl (.inl rfl))
        (pss_one (ps_expr (pe_bm PySem.F.plainAttrs_list PySem.F.slot_list_append PySem.F.type_list_append mt_append (pv 1) (pa_cons (pe_tup (pa_cons (pe_kn Ot hr (by omega) (pa_cons (pe_dget (hu_of hr) (pe_fld (pv 0) rfl) (pv 2) (fun _ _ => rfl)) (pa_cons (pe_fld (pv 0) rfl) pa_nil))) (pa_cons (pe_tup (pa_cons pe_str (pa_cons (pv 2) (pa_cons (pe_dget (hu_of hr) (pe_fld (pv 0) rfl) (pv 2) (fun _ _ => rfl)) (pa_cons (pe_fld (pv 0) rfl) pa_nil))))) pa_nil))) pa_nil)))))
      (C8.pss_cut (ps_if (pt_cmpR op_notN (pe_fld (pv 0) rfl) pe_non (nomark _)) (pss_cons (ps_setLc (i := 3) (own := [("number", 2)]) (g := (gName 2)) (tt := tYes) (te := (tCall spOthT [] E0 (tCons (tDGet (tFld K (tVar 0) "held") (tVar 2)) (tCons (tFld K (tVar 0) "thing") tNil)))) rfl sc_Hand_beat.nd rfl rfl (sw_true rfl rfl rfl (by decide +kernel)) (pi_list (C8.pe_mt0 Sd1 hr (by omega) (pv 0))) (blkOk_by (N := n_Hand_beat) (sc := defScope a_Hand_beat) (by decide +kernel))
          (fun _ _ _ _ _ => (pg_name (i := 2) sc_Hand_beat.nd rfl (.inl rfl) (hf := .inr rfl))) (fun _ _ _ _ _ => pts_nil) (fun _ _ _ _ _ => (pe_kn Ot hr (by omega) (pa_cons (pe_dget (hu_of hr) (pe_fld (pv 0) rfl) (pv 2) (fun _ _ => rfl)) (pa_cons (pe_fld (pv 0) rfl) pa_nil)))))
      (pss_one (ps_expr (pe_bm PySem.F.plainAttrs_list PySem.F.slot_list_extend PySem.F.type_list_extend mt_extend (pv 1) (pa_cons (
        pe_lc (own := [("thing", 4)]) (g := (gName 4)) (tt := tYes) (te := (tTup (tCons (tVar 4) (tCons (tTup (tCons (tC (.str "word")) (tCons (tFld K (tVar 0) "wish") tNil))) tNil)))) rfl sc_Hand_beat.nd (pi_list (pe_callB (cr_sortedSet rfl) (by rfl) m_sorted (by decide +kernel) (pa_cons (pe_callTy (cr_setLstI rfl) (by rfl) m_set (by decide +kernel) (pa_cons (pv 3) pa_nil)) pa_nil))) (blkOk_by (N := n_Hand_beat) (sc := defScope a_Hand_beat) (by decide +kernel))
          (fun _ _ _ _ _ => (pg_name (i := 4) sc_Hand_beat.nd rfl (.inl rfl) (hf := .inr rfl))) (fun _ _ _ _ _ => pts_nil) (fun _ _ _ _ _ => (pe_tup (pa_cons (pv 4) (pa_cons (pe_tup (pa_cons pe_str (pa_cons (pe_fld (pv 0) rfl) pa_nil))) pa_nil))))) pa_nil))))) pss_nil)
      (pss_one (ps_ret (pe_callTy call_tuple_of (by rfl) m_tuple (by decide +kernel) (pa_cons (pv 1) pa_nil))))))), ?_⟩
    have ha0 := ha
    obtain ⟨dx, v, hs, e, w1, d, t, l⟩ := ha
    have getH : ∀ (H1 : Hp) (n : Int), Same H H1 → (∃ q c, look h.rows n = some (q, c) ∧ shrd q = true) → ∃ a q c, valV (kvH hs) (Sum.inl n) = some (V.ref a) ∧ RuleAt H1 a q ∧ valV (kvT h.rows) (Sum.inl n) = some (V.int c) ∧ h.othN n = (othT q h.thing : Nat) ∧ h.cntN n = c := fun H1 n s ⟨q, c, lk, _⟩ => by
      rcases valH n (l.keep (.same s)) with ⟨a1, a2⟩ | ⟨q', c', a, a1, a2, a3⟩
      · rw [lk] at a1
        cases a1
      rw [lk] at a1
      cases a1
      refine ⟨a, q, c, a2, a3, ?_, ?_, ?_⟩
      · rw [valT, lk]
        rfl
      · unfold Hd.othN
        rw [lk]
      · unfold Hd.cntN
        rw [lk]
    refine ⟨(show 0 ≤ sizeLine by decide), fun F nF => ?_⟩
    have sF := same_new (o := HO.lst []) nF
    dsimp only [List.set]
    refine ⟨.ref x, rfl, x, dx, _, rfl, sF _ _ e, lkm, x, D, T, h, rfl, ha0.same sF, l40, hw, fun H2 Y ys s2 eY yL => ?_⟩
    have yl := yL.len
    have s02 := sF.trans s2
    have eF2 : H2 F = some (.lst []) := s2 _ _ upd_same
    refine ⟨Y, rfl, ⟨_, .inl (.inl eY)⟩, for_it (walk_tup (xs := ys.map V.int)) (fun i σ H' => (∃ u2, σ = [some (.ref x), some (.ref F), u2, none, none]) ∧ Same H H' ∧ H' Y = some (.tup (ys.map V.int)) ∧ ∃ as, H' F = some (.lst (as.map V.ref)) ∧ BtAt H' as (h.asks (ys.take i))) ⟨⟨_, rfl⟩, s02, eY, [], eF2, trivial⟩ (fun i σ H' _ p => .inl (.inl p.2.2.1)) (fun i u σ H3 H4 hi p y => ?_) (fun σ H3 p => ?_)⟩
    · obtain ⟨⟨u2, rfl⟩, s3, eY3, as, eF, bA⟩ := p
      obtain ⟨rfl, gv⟩ := y
      obtain ⟨n, en, rfl⟩ := mapGet gv
      obtain ⟨a, rl, c, g1, g2, g3, g4, g5⟩ := getH _ n s3 (yL.mem (List.mem_of_getElem? en))
      have la := bA.len
      have li : as.length ≤ 40 := by
        rw [la]
        unfold Hd.asks
        rw [List.length_map, List.length_take]
        exact Nat.le_trans (Nat.min_le_right _ _) (by omega)
      dsimp only [List.set]
      refine ⟨.ref F, rfl, .inl ⟨rfl, _, .inl (.inl eF)⟩, .ref x, rfl, x, C, dx, _, _, rfl, s3 _ _ e, X.cl, X.n4, lk4, .int n, rfl, D, .ref a, rfl, g1 ▸ DGr (k := .inl n) (rs s3 d), .ref x, rfl, x, C, dx, _, _, rfl, s3 _ _ e, X.cl, X.n1, lk1, a, rl, h.thing, rfl, g2, _, rfl, .ref x, rfl, x, C, dx, _, _, rfl, s3 _ _ e, X.cl, X.n5, lk5, .int n, rfl, T, .int c, rfl, g3 ▸ DGet.k (k := .inl n) (s3 _ _ t), .ref x, rfl, x, C, dx, _, _, rfl, s3 _ _ e, X.cl, X.n3, lk3, (show 4 ≤ sizeLine by decide), fun L nL => ⟨(show 2 ≤ sizeLine by decide), fun M nM => ?_⟩⟩
      have sL := same_new (o := HO.tup [V.str "ask", V.int n, V.int c, v]) nL
      have sM := same_new (o := HO.tup [V.int (othT rl h.thing : Nat), V.ref L]) nM
      have sLM := sL.trans sM
      have eM : PrAt _ M (h.othN n, (("ask" : Str), [n, h.cntN n], h.wish)) := ⟨L, (by rw [g4]; exact upd_same), v, (by rw [g5]; exact sM _ _ upd_same), w1.tk (tk_same (s3.trans sLM))⟩
      have eF5 := sLM _ _ eF
      have eY5 := sLM _ _ eY3
      have bA5 := bA.tk (tk_same sLM)
      have s5 := s3.trans sLM
      generalize upd (upd H4 L (.tup [V.str "ask", V.int n, V.int c, v])) M (.tup [V.int (othT rl h.thing : Nat), V.ref L]) = H5 at eM eF5 eY5 bA5 s5 ⊢
      have kF : TupK H5 (upd H5 F (.lst (as.map V.ref ++ [V.ref M]))) := fun b xs eb => (upd_ne (fun q => by rw [q, eF5] at eb; cases eb)).trans eb
      refine ⟨F, _, _, rfl, rfl, eF5, by rw [List.length_map]; exact small1000 (by omega), ⟨_, rfl⟩, same_over s5 nF, kF _ _ eY5, as ++ [M], by rw [upd_same, List.map_append]; rfl, ?_⟩
      have e6 : h.asks (ys.take (i + 1)) = h.asks (ys.take i) ++ [(h.othN n, (("ask" : Str), [n, h.cntN n], h.wish))] := by
        unfold Hd.asks
        rw [List.take_add_one, en, List.map_append]
        rfl
      rw [e6]
      exact (bA5.tk kF).app (eM.tk kF)
    obtain ⟨⟨u2, rfl⟩, s3, eY3, as, eF, bA⟩ := p
    rw [List.take_of_length_le (by rw [List.length_map]; exact Nat.le_refl _)] at bA
    have la : as.length ≤ 40 := by
      rw [bA.len]
      unfold Hd.asks
      rw [List.length_map]
      omega
    refine ⟨fun σ H' => (∃ u2 u3 u4, σ = [some (.ref x), some (.ref F), u2, u3, u4]) ∧ Same H H' ∧ ∃ as bs, H' F = some (.lst (as.map V.ref)) ∧ BtAt H' as bs ∧ BtL h bs, ?_, fun σ H4 y => ?_⟩
    · refine ⟨.ref x, rfl, x, C, dx, _, _, rfl, s3 _ _ e, X.cl, X.n3, lk3, rfl, ?_⟩
      cases ho : h.wish with
      | none =>
        rw [ho] at w1
        obtain rfl : v = .non := w1
        exact ⟨false, congrArg V.bl (by rw [decide_eq_true rfl]; rfl), iteF ⟨⟨_, _, _, rfl⟩, s3, as, _, eF, bA, ys, yL, .inl ⟨ho, rfl⟩⟩⟩
      | some wi =>
        have hv : v ≠ .non := by
          rw [ho] at w1
          obtain ⟨p1, p2, rfl, _⟩ := w1
          exact fun z => by cases z
        refine ⟨true, congrArg V.bl (by rw [decide_eq_false hv]; rfl), iteT ?_⟩
        have hne : h.wish ≠ none := fun z => by rw [ho] at z; cases z
        refine ⟨.ref x, rfl, x, dx, _, rfl, s3 _ _ e, lkm, x, D, T, h, rfl, ha0.same s3, l40, fun H4 S ss s4 eS sL => ?_⟩
        have sl := sL.len
        have s34 := s3.trans s4
        refine ⟨S, rfl, ⟨_, .inl (.inl eS)⟩, fun G nG => lc_it (walk_list (xs := ss.map V.int)) (fun i H' => Same H4 H' ∧ H' G = some (.lst (((ss.take i).map h.othN).map V.int))) ⟨same_new nG, upd_same⟩ (fun i H' _ p => .inl (.inl (p.1 _ _ eS))) (fun i u H5 H6 hi p y => ?_) (fun H5 p => ?_)⟩
        · obtain ⟨sm, eG⟩ := p
          obtain ⟨rfl, gv⟩ := y
          obtain ⟨n, en, rfl⟩ := mapGet gv
          have s05 := s34.trans sm
          obtain ⟨a, rl, c, g1, g2, g3, g4, g5⟩ := getH _ n s05 (sL.mem (List.mem_of_getElem? en))
          refine ⟨rfl, .ref x, rfl, x, C, dx, _, _, rfl, s05 _ _ e, X.cl, X.n4, lk4, .int n, rfl, D, .ref a, rfl, g1 ▸ DGr (k := .inl n) (rs s05 d), .ref x, rfl, x, C, dx, _, _, rfl, s05 _ _ e, X.cl, X.n1, lk1, a, rl, h.thing, rfl, g2, _, eG, ?_, same_over sm nG, ?_⟩
          · rw [List.length_map, List.length_map, List.length_take]
            exact small1000 (Nat.le_trans (Nat.min_le_right _ _) (by omega))
          · rw [upd_same, List.take_add_one, en, List.map_append, List.map_append]
            show some (HO.lst (_ ++ [V.int (othT rl h.thing : Nat)])) = some (HO.lst (_ ++ [V.int (h.othN n)]))
            rw [g4]
        obtain ⟨sm, eG⟩ := p
        rw [List.take_of_length_le (by rw [List.length_map]; exact Nat.le_refl _)] at eG
        have s05 := s34.trans sm
        have eF5 := (s4.trans sm) _ _ eF
        dsimp only [List.set]
        refine ⟨.ref F, rfl, .inl ⟨rfl, _, .inl (.inl eF5)⟩, .ref G, rfl, G, ss.map h.othN, rfl, .inl (.inl eG), by rw [List.length_map]; omega, fun B cc nB hcc => ?_⟩
        rw [List.length_map] at hcc
        refine ⟨B, _, cc, rfl, upd_same, by omega, fun ts R pw mm ln nR => ?_⟩
        generalize hG : upd (upd H5 B (SetO _ _ _ _)) R (.lst (ts.map V.int)) = H6
        have eR : H6 R = some (.lst (ts.map V.int)) := by
          rw [← hG]
          exact upd_same
        have s6 : Same H3 H6 := by
          rw [← hG]
          exact (s4.trans sm).trans ((same_new nB).trans (same_new nR))
        have s06 := s3.trans s6
        have lt : ts.length ≤ 40 := by omega
        refine ⟨R, rfl, ⟨_, .inl (.inl eR)⟩, fun W nW => lc_it (walk_list (xs := ts.map V.int)) (fun i H' => Same H6 H' ∧ ∃ as', H' W = some (.lst (as'.map V.ref)) ∧ BtAt H' as' (h.words (ts.take i))) ⟨same_new nW, [], upd_same, trivial⟩ (fun i H' _ p => .inl (.inl (p.1 _ _ eR))) (fun i u H7 H8 hi p y => ?_) (fun H7 p => ?_)⟩
        · obtain ⟨s7, as', eW, bW⟩ := p
          obtain ⟨rfl, gv⟩ := y
          obtain ⟨kk, ek, rfl⟩ := mapGet gv
          have s07 := s06.trans s7
          have lw : as'.length ≤ 40 := by
            rw [bW.len]
            unfold Hd.words
            rw [List.length_map, List.length_take]
            exact Nat.le_trans (Nat.min_le_right _ _) lt
          refine ⟨rfl, _, rfl, .ref x, rfl, x, C, dx, _, _, rfl, s07 _ _ e, X.cl, X.n3, lk3, (show 2 ≤ sizeLine by decide), fun L nL => ⟨(show 2 ≤ sizeLine by decide), fun M nM => ?_⟩⟩
          have sL' := same_new (o := HO.tup [V.str "word", v]) nL
          have sM := same_new (o := HO.tup [V.int kk, V.ref L]) nM
          have sLM := sL'.trans sM
          have eM : PrAt _ M (kk, (("word" : Str), [], h.wish)) := ⟨L, upd_same, v, sM _ _ upd_same, w1.tk (tk_same (s07.trans sLM))⟩
          have eW9 := sLM _ _ eW
          have bW9 := bW.tk (tk_same sLM)
          have s9 := s7.trans sLM
          generalize upd (upd H8 L (.tup [V.str "word", v])) M (.tup [V.int kk, V.ref L]) = H9 at eM eW9 bW9 s9 ⊢
          have kW : TupK H9 (upd H9 W (.lst (as'.map V.ref ++ [V.ref M]))) := fun b xs eb => (upd_ne (fun q => by rw [q, eW9] at eb; cases eb)).trans eb
          refine ⟨_, eW9, by rw [List.length_map]; exact small1000 (by omega), same_over s9 nW, as' ++ [M], by rw [upd_same, List.map_append]; rfl, ?_⟩
          have e6 : h.words (ts.take (i + 1)) = h.words (ts.take i) ++ [(kk, (("word" : Str), [], h.wish))] := by
            unfold Hd.words
            rw [List.take_add_one, ek, List.map_append]
            rfl
          rw [e6]
          exact (bW9.tk kW).app (eM.tk kW)
        · obtain ⟨s7, as', eW, bW⟩ := p
          rw [List.take_of_length_le (by rw [List.length_map]; exact Nat.le_refl _)] at bW
          have eF7 := s7 _ _ (s6 _ _ eF)
          have bA7 := bA.tk (tk_same (s6.trans s7))
          have lw : as'.length ≤ 40 := by
            rw [bW.len]
            unfold Hd.words
            rw [List.length_map]
            exact lt
          have kF : TupK H7 (upd H7 F (.lst (as.map V.ref ++ as'.map V.ref))) := fun b xs eb => (upd_ne (fun q => by rw [q, eF7] at eb; cases eb)).trans eb
          refine ⟨F, W, _, _, rfl, rfl, eF7, eW, by rw [List.length_map, List.length_map]; exact Nat.le_trans (show as.length + as'.length ≤ 80 by omega) (by decide), ⟨_, _, _, rfl⟩, same_over (s06.trans s7) nF, as ++ as', h.asks ys ++ h.words ts, by rw [upd_same, List.map_append], BtAt.cat (bW.tk kF) (bA7.tk kF), ys, yL, .inr ⟨hne, ss, ts, sL, pw, fun k => ?_, rfl⟩⟩
          rw [mm k, decide_eq_true_eq]
    · obtain ⟨⟨u2, u3, u4, rfl⟩, s4, as', bs', eF', bA', bL⟩ := y
      refine ⟨.ref F, rfl, F, _, rfl, .inl ⟨.inl (.inl eF'), fun G nG => ?_⟩⟩
      have sG := same_new (o := HO.tup (as'.map V.ref)) nG
      exact q _ G bs' (s4.trans sG) ⟨as', upd_same, bA'.tk (tk_same sG)⟩ bL
end
end K64

set_option Elab.async false
set_option linter.all false
set_option maxRecDepth 100000
namespace K64
open PySem PySem.Spec PyProof.Rows L2 NB

/-! ### wiped slots -/
theorem wipe_get (σ : L2.St) : ∀ (vs : List Nat) (j : Nat), (wipe σ vs)[j]? = if j ∈ vs then σ[j]?.map (fun _ => none) else σ[j]?
  | [], j => by rw [if_neg List.not_mem_nil]; rfl
  | v :: vs, j => by
    show ((wipe σ vs).set v none)[j]? = _
    rw [List.getElem?_set, wipe_get σ vs j, wipe_length]
    by_cases c : v = j
    · subst c
      rw [if_pos rfl, if_pos List.mem_cons_self]
      by_cases d : v < σ.length
      · rw [if_pos d, List.getElem?_eq_getElem d]
        rfl
      · rw [if_neg d, List.getElem?_eq_none (by omega)]
        rfl
    · rw [if_neg c]
      have : j ∈ v :: vs ↔ j ∈ vs := by rw [List.mem_cons]; exact ⟨fun h => h.elim (fun e => absurd e.symm c) id, .inr⟩
      by_cases d : j ∈ vs
      · rw [if_pos d, if_pos (this.mpr d)]
      · rw [if_neg d, if_neg (fun h => d (this.mp h))]
theorem wipe_any {σ τ : L2.St} {vs : List Nat} (l : τ.length = σ.length) (h : ∀ j, j ∉ vs → τ[j]? = σ[j]?) : wipe τ vs = wipe σ vs := by
  refine List.ext_getElem? fun j => ?_
  rw [wipe_get, wipe_get]
  by_cases d : j ∈ vs
  · rw [if_pos d, if_pos d]
    by_cases e : j < σ.length
    · rw [List.getElem?_eq_getElem e, List.getElem?_eq_getElem (by omega)]
      rfl
    · rw [List.getElem?_eq_none (by omega), List.getElem?_eq_none (by omega)]
  · rw [if_neg d, if_neg d, h j d]

/-! ### a hand is made -/
def RwAt (H : Hp) (R : Addr) (rows : List (Int × Rl × Int)) (hs : List (Int × Addr)) : Prop := ∃ as : List Addr, H R = some (.tup (as.map V.ref)) ∧ as.length = rows.length ∧ hs.length = rows.length ∧
  ∀ (i : Nat) (a : Addr) (r : Int × Rl × Int) (z : Int × Addr), as[i]? = some a → rows[i]? = some r → hs[i]? = some z → z.1 = r.1 ∧ H a = some (.tup [.int r.1, .ref z.2, .int r.2.2]) ∧ RuleAt H z.2 r.2.1
theorem RwAt.tk {H H' : Hp} {R : Addr} {rows : List (Int × Rl × Int)} {hs : List (Int × Addr)} (h : RwAt H R rows hs) (k : TupK H H') : RwAt H' R rows hs := by
  obtain ⟨as, e, l1, l2, f⟩ := h
  exact ⟨as, k _ _ e, l1, l2, fun i a r z h1 h2 h3 => ⟨(f i a r z h1 h2 h3).1, k _ _ (f i a r z h1 h2 h3).2.1, (f i a r z h1 h2 h3).2.2.tk k⟩⟩
theorem held_of {H : Hp} : ∀ {hs : List (Int × Addr)} {rows : List (Int × Rl × Int)}, hs.length = rows.length → (∀ (i : Nat) (r : Int × Rl × Int) (z : Int × Addr), rows[i]? = some r → hs[i]? = some z → z.1 = r.1 ∧ RuleAt H z.2 r.2.1) → Held H hs rows
  | [], [], _, _ => trivial
  | z :: hs, r :: rows, l, f => ⟨(f 0 r z rfl rfl).1, (f 0 r z rfl rfl).2, held_of (by simpa using l) fun i r' z' h1 h2 => f (i + 1) r' z' h1 h2⟩
  | [], _ :: _, l, _ => by cases l
  | _ :: _, [], l, _ => by cases l
theorem putK_new {kvs : List (Key × V)} {k : Key} {v : V} (h : ∀ kv ∈ kvs, kv.1 ≠ k) : putK kvs k v = kvs ++ [(k, v)] := by
  unfold putK
  rw [if_neg]
  intro z
  obtain ⟨kv, h1, h2⟩ := List.any_eq_true.mp z
  exact h kv h1 (of_decide_eq_true h2)
theorem nd_take {ks : List Int} (nd : ks.Nodup) {i : Nat} {n : Int} (e : ks[i]? = some n) : n ∉ ks.take i := fun h => by
  obtain ⟨j, hj⟩ := List.mem_iff_getElem?.mp h
  have lj : j < i := by
    have := (List.getElem?_eq_some_iff.mp hj).1
    rw [List.length_take] at this
    omega
  rw [List.getElem?_take_of_lt lj] at hj
  have := (List.getElem?_inj (List.getElem?_eq_some_iff.mp hj).1 nd).mp (hj.trans e.symm)
  omega
theorem wipe_three {σ : L2.St} {i j k : Nat} {a b c : Option V} {m n o : Str} : wipe ((((wipe σ ([(m, i), (n, j), (o, k)].map (·.2))).set i a).set j b).set k c) ([(m, i), (n, j), (o, k)].map (·.2)) = wipe σ ([(m, i), (n, j), (o, k)].map (·.2)) := by
  refine wipe_any (by rw [List.length_set, List.length_set, List.length_set, wipe_length]) fun l hl => ?_
  have h1 : i ≠ l := fun e => hl (by simp [e])
  have h2 : j ≠ l := fun e => hl (by simp [e])
  have h3 : k ≠ l := fun e => hl (by simp [e])
  rw [List.getElem?_set_ne h3, List.getElem?_set_ne h2, List.getElem?_set_ne h1, wipe_get, if_neg hl]
def spHInit (C : Addr) : Sp := fun vs H Q _ => ∃ (x dx R : Addr) (i : Nat) (p : Int) (rows : List (Int × Rl × Int)) (hs : List (Int × Addr)), vs = [.ref x, .int (i : Int), .int p, .ref R] ∧ H x = some (.ins C dx []) ∧ RwAt H R rows hs ∧ (rows.map (·.1)).Nodup ∧ rows.length ≤ 40 ∧
  ∀ H' D T, (∀ b o, b ≠ x → H b = some o → H' b = some o) → HandAt C H' x D T ⟨i, p, none, rows⟩ → D ≠ T → H D = none → H T = none → (∃ kvs, H' D = some (.dK kvs)) → Q .non H'
theorem put3 (i p v : V) : putF "wish" v (putF "place" p (putF "thing" i [])) = ([("thing", i), ("place", p), ("wish", v)] : List (Str × V)) := by
  have n1 : ¬ (("thing" : Str) = "place") := by decide +kernel
  have n2 : ¬ (("thing" : Str) = "wish") := by decide +kernel
  have n3 : ¬ (("place" : Str) = "wish") := by decide +kernel
  simp [putF, n1, n2, n3]
theorem put4 (i p v d : V) : putF "held" d [("thing", i), ("place", p), ("wish", v)] = ([("thing", i), ("place", p), ("wish", v), ("held", d)] : List (Str × V)) := by
  have n1 : ¬ (("thing" : Str) = "held") := by decide +kernel
  have n2 : ¬ (("place" : Str) = "held") := by decide +kernel
  have n3 : ¬ (("wish" : Str) = "held") := by decide +kernel
  simp [putF, n1, n2, n3]
theorem put5 (i p v d t : V) : putF "tally" t [("thing", i), ("place", p), ("wish", v), ("held", d)] = ([("thing", i), ("place", p), ("wish", v), ("held", d), ("tally", t)] : List (Str × V)) := by
  have n1 : ¬ (("thing" : Str) = "tally") := by decide +kernel
  have n2 : ¬ (("place" : Str) = "tally") := by decide +kernel
  have n3 : ¬ (("wish" : Str) = "tally") := by decide +kernel
  have n4 : ¬ (("held" : Str) = "tally") := by decide +kernel
  simp [putF, n1, n2, n3, n4]
section
variable {P : Program} {w : World} {K : PySem.W.Frag} {mg : Str → Option Value} {base : Heap}
abbrev a_Hand___init__ : Stmt := inClass (topS 18) 0
abbrev n_Hand___init__ : List Str := ["self", "thing", "place", "rules", "number", "rule", "count"]
theorem sc_Hand___init__ : FnScope n_Hand___init__ ["self", "thing", "place", "rules"] (defScope a_Hand___init__) := ⟨rfl, rfl, rfl, by decide +kernel, rfl, by decide +kernel, by decide +kernel⟩
set_option maxHeartbeats 8000000 in
theorem ok_Hand___init__ {f  : Addr} {fd  : FuncData} {k : Nat} {C : Addr} (F : Fun K "__init__" "Hand.__init__" a_Hand___init__ f fd)  (X : HandTxt K C)  : FnOk P w K mg base CX0 (k + 1) f fd ["self", "thing", "place", "rules"] (spHInit C) := by
  refine F.ok sc_Hand___init__ (fun vs H Q E h => ?_) (fun cdv A outer s H vs Q E hr h => ?_)
  · obtain ⟨x, dx, R, i, p, rows, hs, rfl, _⟩ := h
    rfl
  · obtain ⟨x, dx, R, i, p, rows, hs, rfl, ex, hR, nd, l40, q⟩ := h
    refine ⟨_, (pss_cons (ps_fld (pv 0) (pv 1) rfl)
      (pss_cons (ps_fld (pv 0) (pv 2) rfl)
      (pss_cons (ps_fld (pv 0) pe_non rfl)
      (pss_cons (ps_fld (pv 0) (
        pe_dc (own := [("number", 4), ("rule", 5), ("count", 6)]) (g := (gTup K 3 (gCons (gName 4) (gCons (gName 5) (gCons (gName 6) gNil))))) (tt := tYes) (tk := (tVar 4)) (tv := (tVar 5)) rfl sc_Hand___init__.nd (pi_tup (pv 3)) (blkOk_by (N := n_Hand___init__) (sc := defScope a_Hand___init__) (by decide +kernel))
          (fun _ _ _ _ _ => (pg_tup rfl (pgs_cons (pg_name (i := 4) sc_Hand___init__.nd rfl (.inl rfl) (hf := .inr rfl)) (pgs_cons (pg_name (i := 5) sc_Hand___init__.nd rfl (.inl rfl) (hf := .inr rfl)) (pgs_cons (pg_name (i := 6) sc_Hand___init__.nd rfl (.inl rfl) (hf := .inr rfl)) pgs_nil))))) (fun _ _ _ _ _ => pts_nil) (fun _ _ _ _ _ => (pv 4)) (fun _ _ _ _ _ => (pv 5))) rfl)
      (pss_one (ps_fld (pv 0) (
        pe_dc (own := [("number", 4), ("rule", 5), ("count", 6)]) (g := (gTup K 3 (gCons (gName 4) (gCons (gName 5) (gCons (gName 6) gNil))))) (tt := tYes) (tk := (tVar 4)) (tv := (tVar 6)) rfl sc_Hand___init__.nd (pi_tup (pv 3)) (blkOk_by (N := n_Hand___init__) (sc := defScope a_Hand___init__) (by decide +kernel))
          (fun _ _ _ _ _ => (pg_tup rfl (pgs_cons (pg_name (i := 4) sc_Hand___init__.nd rfl (.inl rfl) (hf := .inr rfl)) (pgs_cons (pg_name (i := 5) sc_Hand___init__.nd rfl (.inl rfl) (hf := .inr rfl)) (pgs_cons (pg_name (i := 6) sc_Hand___init__.nd rfl (.inl rfl) (hf := .inr rfl)) pgs_nil))))) (fun _ _ _ _ _ => pts_nil) (fun _ _ _ _ _ => (pv 4)) (fun _ _ _ _ _ => (pv 6))) rfl)))))), ?_⟩
    obtain ⟨as, eR, l1, l2, f⟩ := hR
    refine ⟨.int (i : Int), rfl, .ref x, rfl, x, C, dx, [], rfl, ex, X.cl, X.n1, (show 0 < 1000 by decide), ?_⟩
    refine ⟨.int p, rfl, .ref x, rfl, x, C, dx, _, rfl, upd_same, X.cl, X.n2, (show 1 < 1000 by decide), ?_⟩
    refine ⟨.ref x, rfl, x, C, dx, _, rfl, upd_same, X.cl, X.n3, (show 2 < 1000 by decide), ?_⟩
    rw [put3]
    have e3 : (upd (upd (upd H x (.ins C dx (putF "thing" (.int (i : Int)) []))) x (.ins C dx (putF "place" (.int p) (putF "thing" (.int (i : Int)) [])))) x (.ins C dx [("thing", .int (i : Int)), ("place", .int p), ("wish", .non)])) x = some (.ins C dx [("thing", .int (i : Int)), ("place", .int p), ("wish", .non)]) := upd_same
    have b3 : ∀ b o, b ≠ x → H b = some o → (upd (upd (upd H x (.ins C dx (putF "thing" (.int (i : Int)) []))) x (.ins C dx (putF "place" (.int p) (putF "thing" (.int (i : Int)) [])))) x (.ins C dx [("thing", .int (i : Int)), ("place", .int p), ("wish", .non)])) b = some o := fun b o n eb => by
      rw [upd_ne n, upd_ne n, upd_ne n]
      exact eb
    have f3 : ∀ b, b ≠ x → (upd (upd (upd H x (.ins C dx (putF "thing" (.int (i : Int)) []))) x (.ins C dx (putF "place" (.int p) (putF "thing" (.int (i : Int)) [])))) x (.ins C dx [("thing", .int (i : Int)), ("place", .int p), ("wish", .non)])) b = H b := fun b n => by
      rw [upd_ne n, upd_ne n, upd_ne n]
    generalize upd (upd (upd H x (.ins C dx (putF "thing" (.int (i : Int)) []))) x (.ins C dx (putF "place" (.int p) (putF "thing" (.int (i : Int)) [])))) x (.ins C dx [("thing", .int (i : Int)), ("place", .int p), ("wish", .non)]) = H3 at e3 b3 f3 ⊢
    have nx : ∀ b xs, H b = some (.tup xs) → b ≠ x := fun b xs eb z => by
      rw [z, ex] at eb
      cases eb
    have tk3 : TupK H H3 := fun b xs eb => b3 b _ (nx b xs eb) eb
    have rw3 : ∀ (j : Nat) (a : Addr) (r : Int × Rl × Int) (z : Int × Addr), as[j]? = some a → rows[j]? = some r → hs[j]? = some z → z.1 = r.1 ∧ H3 a = some (.tup [.int r.1, .ref z.2, .int r.2.2]) ∧ RuleAt H3 z.2 r.2.1 := fun j a r z h1 h2 h3 => ⟨(f j a r z h1 h2 h3).1, tk3 _ _ (f j a r z h1 h2 h3).2.1, (f j a r z h1 h2 h3).2.2.tk tk3⟩
    have eR3 := tk3 _ _ eR
    have kh : hs.map (·.1) = rows.map (·.1) := (held_of (H := H3) l2 fun j r z h1 h2 => by
      have hj : j < as.length := by
        have := (List.getElem?_eq_some_iff.mp h1).1
        omega
      exact ⟨(rw3 j _ r z (List.getElem?_eq_getElem hj) h1 h2).1, (rw3 j _ r z (List.getElem?_eq_getElem hj) h1 h2).2.2⟩).keys
    have pick : ∀ (H4 : Hp) (j : Nat) (u : V), Same H3 H4 → (as.map V.ref)[j]? = some u → ∃ a r z, u = .ref a ∧ rows[j]? = some r ∧ hs[j]? = some z ∧ z.1 = r.1 ∧ H4 a = some (.tup [.int r.1, .ref z.2, .int r.2.2]) ∧ j < 40 := fun H4 j u s hu => by
      obtain ⟨a, ea, rfl⟩ := mapGet hu
      have hj := (List.getElem?_eq_some_iff.mp ea).1
      have e1 := List.getElem?_eq_getElem (show j < rows.length by omega)
      have e2 := List.getElem?_eq_getElem (show j < hs.length by omega)
      have := rw3 j a _ _ ea e1 e2
      exact ⟨a, _, _, rfl, e1, e2, this.1, s _ _ this.2.1, by omega⟩
    refine ⟨.ref R, rfl, R, rfl, ⟨_, .inl (.inl eR3)⟩, fun D nD => dc_tup (xs := as.map V.ref) (fun j H' => Same H3 H' ∧ H' D = some (.dK (kvH (hs.take j)))) ⟨same_new nD, upd_same⟩ (fun j H' _ z => .inl (.inl (z.1 _ _ eR3))) (fun j u H4 hu z => ?_) (fun H4 z => ?_)⟩
    · obtain ⟨s4, eD⟩ := z
      obtain ⟨a, r, zz, rfl, er, ez, e1, ea, lj⟩ := pick H4 j u s4 hu
      refine ⟨a, _, rfl, .inl (.inl ea), rfl, _, _, rfl, _, _, rfl, _, _, rfl, rfl, wipe_three, _, rfl, _, rfl, kvH (hs.take j), .inl r.1, rfl, eD, ?_, same_over s4 nD, ?_⟩
      · unfold kvH
        rw [List.length_map, List.length_take]
        exact small1000 (Nat.le_trans (Nat.min_le_left _ _) (by omega))
      · rw [upd_same, putK_new (fun kv hkv => ?_)]
        · unfold kvH
          rw [List.take_add_one, ez, List.map_append, ← e1]
          rfl
        · obtain ⟨w1, hw1, rfl⟩ := List.mem_map.mp hkv
          intro q0
          have q1 : w1.1 = r.1 := Sum.inl.inj q0
          refine nd_take (kh ▸ nd) (n := r.1) (i := j) (by rw [List.getElem?_map, ez, ← e1]; rfl) ?_
          rw [← q1, ← List.map_take]
          exact List.mem_map_of_mem hw1
    obtain ⟨s4, eD⟩ := z
    rw [List.take_of_length_le (by rw [List.length_map]; omega)] at eD
    have nDx : D ≠ x := fun z => by rw [z, e3] at nD; cases nD
    refine ⟨.ref x, rfl, x, C, dx, _, rfl, s4 _ _ e3, X.cl, X.n4, (show 3 < 1000 by decide), ?_⟩
    rw [put4]
    have e5 : (upd H4 x (.ins C dx [("thing", .int (i : Int)), ("place", .int p), ("wish", .non), ("held", .ref D)])) x = some (.ins C dx [("thing", .int (i : Int)), ("place", .int p), ("wish", .non), ("held", .ref D)]) := upd_same
    have eD5 : (upd H4 x (.ins C dx [("thing", .int (i : Int)), ("place", .int p), ("wish", .non), ("held", .ref D)])) D = some (.dK (kvH hs)) := (upd_ne nDx).trans eD
    have b5 : ∀ b o, b ≠ x → H4 b = some o → (upd H4 x (.ins C dx [("thing", .int (i : Int)), ("place", .int p), ("wish", .non), ("held", .ref D)])) b = some o := fun b o n eb => (upd_ne n).trans eb
    have n5 : ∀ b, b ≠ x → (upd H4 x (.ins C dx [("thing", .int (i : Int)), ("place", .int p), ("wish", .non), ("held", .ref D)])) b = none → H4 b = none := fun b n eb => by rwa [upd_ne n] at eb
    generalize upd H4 x (.ins C dx [("thing", .int (i : Int)), ("place", .int p), ("wish", .non), ("held", .ref D)]) = H5 at e5 eD5 b5 n5 ⊢
    have eR5 : H5 R = some (.tup (as.map V.ref)) := b5 _ _ (nx _ _ eR) (s4 _ _ eR3)
    have ne4 : ∀ b xs, H4 b = some (.tup xs) → b ≠ x := fun b xs eb z => by
      rw [z, s4 _ _ e3] at eb
      cases eb
    have pick5 : ∀ (H6 : Hp) (j : Nat) (u : V), Same H5 H6 → (as.map V.ref)[j]? = some u → ∃ a r z, u = .ref a ∧ rows[j]? = some r ∧ hs[j]? = some z ∧ z.1 = r.1 ∧ H6 a = some (.tup [.int r.1, .ref z.2, .int r.2.2]) ∧ j < 40 := fun H6 j u s hu => by
      obtain ⟨a, r, z, h1, h2, h3, h4, h5, h6⟩ := pick H4 j u s4 hu
      exact ⟨a, r, z, h1, h2, h3, h4, s _ _ (b5 _ _ (ne4 _ _ h5) h5), h6⟩
    refine ⟨.ref R, rfl, R, rfl, ⟨_, .inl (.inl eR5)⟩, fun T nT => dc_tup (xs := as.map V.ref) (fun j H' => Same H5 H' ∧ H' T = some (.dK (kvT (rows.take j)))) ⟨same_new nT, upd_same⟩ (fun j H' _ z => .inl (.inl (z.1 _ _ eR5))) (fun j u H6 hu z => ?_) (fun H6 z => ?_)⟩
    · obtain ⟨s6, eT⟩ := z
      obtain ⟨a, r, zz, rfl, er, ez, e1, ea, lj⟩ := pick5 H6 j u s6 hu
      refine ⟨a, _, rfl, .inl (.inl ea), rfl, _, _, rfl, _, _, rfl, _, _, rfl, rfl, wipe_three, _, rfl, _, rfl, kvT (rows.take j), .inl r.1, rfl, eT, ?_, same_over s6 nT, ?_⟩
      · unfold kvT
        rw [List.length_map, List.length_take]
        exact small1000 (Nat.le_trans (Nat.min_le_left _ _) (by omega))
      · rw [upd_same, putK_new (fun kv hkv => ?_)]
        · unfold kvT
          rw [List.take_add_one, er, List.map_append]
          rfl
        · obtain ⟨w1, hw1, rfl⟩ := List.mem_map.mp hkv
          intro q0
          have q1 : w1.1 = r.1 := Sum.inl.inj q0
          refine nd_take nd (n := r.1) (i := j) (by rw [List.getElem?_map, er]; rfl) ?_
          rw [← q1, ← List.map_take]
          exact List.mem_map_of_mem hw1
    obtain ⟨s6, eT⟩ := z
    rw [List.take_of_length_le (by rw [List.length_map]; omega)] at eT
    have nTx : T ≠ x := fun z => by rw [z, e5] at nT; cases nT
    have nDT : D ≠ T := fun z => by rw [← z, eD5] at nT; cases nT
    refine ⟨.ref x, rfl, x, C, dx, _, rfl, s6 _ _ e5, X.cl, X.n5, (show 4 < 1000 by decide), ?_⟩
    rw [put5]
    have b07 : ∀ b o, b ≠ x → H b = some o → (upd H6 x (.ins C dx [("thing", .int (i : Int)), ("place", .int p), ("wish", .non), ("held", .ref D), ("tally", .ref T)])) b = some o := fun b o n eb => (upd_ne n).trans (s6 _ _ (b5 _ _ n (s4 _ _ (b3 _ _ n eb))))
    have tk7 : TupK H (upd H6 x (.ins C dx [("thing", .int (i : Int)), ("place", .int p), ("wish", .non), ("held", .ref D), ("tally", .ref T)])) := fun b xs eb => b07 b _ (nx b xs eb) eb
    have nTH : H T = none := by
      have z1 := n5 T nTx nT
      cases hq : H3 T with
      | none => rw [← f3 T nTx]; exact hq
      | some o =>
        rw [s4 _ _ hq] at z1
        cases z1
    refine q _ D T b07 ⟨dx, .non, hs, upd_same, rfl, .inl ((upd_ne nDx).trans (s6 _ _ eD5)), (upd_ne nTx).trans eT, held_of l2 fun j r z h1 h2 => ?_⟩ nDT (by rw [← f3 D nDx]; exact nD) nTH ⟨_, (upd_ne nDx).trans (s6 _ _ eD5)⟩
    have hj : j < as.length := by
      have := (List.getElem?_eq_some_iff.mp h1).1
      show j < as.length
      have h1' : j < rows.length := this
      omega
    have := f j _ r z (List.getElem?_eq_getElem hj) h1 h2
    exact ⟨this.1, this.2.2.tk tk7⟩
end
end K64

set_option Elab.async false
set_option linter.all false
set_option maxRecDepth 100000
namespace K64
open PySem PySem.Spec PyProof.Rows L2 NB

/-! ### what a hand tells is one -/
theorem sorted_uniq : ∀ {l m : List Int}, l.Perm m → l.Pairwise (· ≤ ·) → m.Pairwise (· ≤ ·) → l = m
  | [], m, p, _, _ => (List.nil_perm.mp p).symm
  | a :: l, [], p, _, _ => by
    have := p.length_eq
    cases this
  | a :: l, b :: m, p, hl, hm => by
    have h1 := (List.pairwise_cons.mp hl).1
    have h2 := (List.pairwise_cons.mp hm).1
    have e : a = b := by
      have ha : a ∈ b :: m := (p.mem_iff).mp List.mem_cons_self
      have hb : b ∈ a :: l := (p.mem_iff).mpr List.mem_cons_self
      rcases List.mem_cons.mp ha with h | h
      · exact h
      · rcases List.mem_cons.mp hb with k | k
        · exact k.symm
        · have q1 : b ≤ a := h2 a h
          have q2 : a ≤ b := h1 b k
          omega
    subst e
    rw [sorted_uniq (List.perm_cons a |>.mp p) (List.pairwise_cons.mp hl).2 (List.pairwise_cons.mp hm).2]
theorem strict_uniq : ∀ {l m : List Int}, (∀ k, k ∈ l ↔ k ∈ m) → l.Pairwise (· < ·) → m.Pairwise (· < ·) → l = m
  | [], [], _, _, _ => rfl
  | [], b :: m, h, _, _ => absurd ((h b).mpr List.mem_cons_self) List.not_mem_nil
  | a :: l, [], h, _, _ => absurd ((h a).mp List.mem_cons_self) List.not_mem_nil
  | a :: l, b :: m, h, hl, hm => by
    have h1 := List.pairwise_cons.mp hl
    have h2 := List.pairwise_cons.mp hm
    have e : a = b := by
      rcases List.mem_cons.mp ((h a).mp List.mem_cons_self) with k | k
      · exact k
      · rcases List.mem_cons.mp ((h b).mpr List.mem_cons_self) with k' | k'
        · exact k'.symm
        · have q1 := h2.1 a k
          have q2 := h1.1 b k'
          omega
    subst e
    rw [strict_uniq (fun k => ?_) h1.2 h2.2]
    constructor
    · intro hk
      rcases List.mem_cons.mp ((h k).mp (List.mem_cons_of_mem _ hk)) with z | z
      · have := h1.1 k hk
        omega
      · exact z
    · intro hk
      rcases List.mem_cons.mp ((h k).mpr (List.mem_cons_of_mem _ hk)) with z | z
      · have := h2.1 k hk
        omega
      · exact z
theorem ShL.uniq {h : Hd} {ys ys' : List Int} (a : ShL h ys) (b : ShL h ys') : ys = ys' := by
  obtain ⟨zs, p, s, rfl⟩ := a
  obtain ⟨zs', p', s', rfl⟩ := b
  rw [sorted_uniq (p.trans p'.symm) s s']
theorem LkL.uniq {h : Hd} {ys ys' : List Int} (a : LkL h ys) (b : LkL h ys') : ys = ys' := by
  rcases a with ⟨g, rfl⟩ | ⟨g, ss, s, rfl⟩
  · rcases b with ⟨_, rfl⟩ | ⟨g', _⟩
    · rfl
    · exact absurd g g'
  · rcases b with ⟨g', _⟩ | ⟨_, ss', s', rfl⟩
    · exact absurd g' g
    · rw [s.uniq s']
theorem BtL.uniq {h : Hd} {bs bs' : List Bt} (a : BtL h bs) (b : BtL h bs') : bs = bs' := by
  obtain ⟨ys, l, a⟩ := a
  obtain ⟨ys', l', b⟩ := b
  have e := l.uniq l'
  subst e
  rcases a with ⟨_, rfl⟩ | ⟨n, ss, ts, s, st, sm, rfl⟩
  · rcases b with ⟨_, rfl⟩ | ⟨n', _⟩
    · rfl
    · exact absurd ‹h.wish = none› n'
  · rcases b with ⟨n', _⟩ | ⟨_, ss', ts', s', st', sm', rfl⟩
    · exact absurd n' n
    · have e := s.uniq s'
      subst e
      rw [strict_uniq (fun k => (sm k).trans (sm' k).symm) st st']

/-! ### a letter heard twice -/
theorem putC_twice (rows : List (Int × Rl × Int)) (n c : Int) : putC (putC rows n c) n c = putC rows n c := by
  unfold putC
  rw [List.map_map]
  refine List.map_congr_left fun r _ => ?_
  show (if (if r.1 = n then (r.1, r.2.1, c) else r).1 = n then _ else _) = _
  by_cases h : r.1 = n
  · rw [if_pos h]
    simp [h]
  · rw [if_neg h]
    simp [h]
theorem setc_twice (h : Hd) (n c : Int) : (h.setc n c).setc n c = h.setc n c := by
  show ({ h with rows := putC (putC h.rows n c) n c } : Hd) = { h with rows := putC h.rows n c }
  rw [putC_twice]
theorem hw_not {h : Hd} {o : Option Wi} (n : ¬ wishN o > wishN h.wish) : h.hw o = h := by
  unfold Hd.hw
  rw [if_neg n]
theorem hw_ge (h : Hd) (o : Option Wi) : ¬ wishN o > wishN (h.hw o).wish := by
  unfold Hd.hw
  split
  · show ¬ wishN o > wishN o
    omega
  · assumption
theorem mx_ge (i j : Int) : i ≤ mx i j ∧ j ≤ mx i j := by
  unfold mx
  split <;> omega
theorem mx_same {i j : Int} (h : j ≤ i) : mx i j = i := by
  unfold mx
  rw [if_neg (by omega)]
theorem setc_wish (h : Hd) (n c : Int) : (h.setc n c).wish = h.wish := rfl
theorem look_setc {h : Hd} {n c : Int} {z : Rl × Int} (e : look h.rows n = some z) : look (h.setc n c).rows n = some (z.1, c) := by
  show look (putC h.rows n c) n = _
  rw [look_put, e]
  simp
theorem hear_at {h : Hd} {a : Str} {n k : Int} {o : Option Wi} {z : Rl × Int} (e : look h.rows n = some z) (s : shrd z.1 = true) : h.hear (a, [n, k], o) = (h.hw o).hear2 a o n k z := by
  rw [hear_two, e]
  exact if_pos s
/-- a letter heard once more at once is answered alike and changes nothing -/
theorem hear_again {h : Hd} {a : Str} {n k : Int} {o : Option Wi} {z : Rl × Int} (e : look h.rows n = some z) (s : shrd z.1 = true) :
    (h.hear (a, [n, k], o)).1.hear (a, [n, k], o) = h.hear (a, [n, k], o) := by
  rw [hear_at e s]
  have hg := hw_ge h o
  have er : look (h.hw o).rows n = some z := by rw [hw_rows]; exact e
  generalize h.hw o = g at hg er
  have em := look_setc (c := mx z.2 k) er
  have km := (mx_ge z.2 k).2
  unfold Hd.hear2
  by_cases c : (decide (a = "leave") || decide (wishN o < wishN g.wish)) = true
  · rw [if_pos c, hear_at em s, hw_not (h := g.setc n (mx z.2 k)) hg]
    unfold Hd.hear2
    rw [if_pos (show (decide (a = "leave") || decide (wishN o < wishN (g.setc n (mx z.2 k)).wish)) = true from c), mx_same km, setc_twice]
  · rw [if_neg c, ans_of em]
    generalize hG : g.setc n (mx z.2 k) = G at em ⊢
    have wG : G.wish = g.wish := by rw [← hG]; rfl
    have eu := look_hup (k := k) em
    have wu : (G.hup n (z.1, mx z.2 k) k).wish = g.wish := by rw [hup_wish, wG]
    have ku : k ≤ G.cup (z.1, mx z.2 k) k := by
      unfold Hd.cup
      split
      · show k ≤ mx z.2 k + 1
        omega
      · exact km
    rw [hear_at eu s, hw_not (by rw [wu]; exact hg)]
    unfold Hd.hear2
    rw [wu, if_neg c, mx_same ku]
    have same : (G.hup n (z.1, mx z.2 k) k).setc n (G.cup (z.1, mx z.2 k) k) = G.hup n (z.1, mx z.2 k) k := by
      unfold Hd.hup Hd.cup
      by_cases q : G.cnd (z.1, mx z.2 k) k = true
      · rw [if_pos q, if_pos q, setc_twice]
      · rw [if_neg q, if_neg q, ← hG, setc_twice]
    rw [same, ans_of eu]
    have nc : (G.hup n (z.1, mx z.2 k) k).cnd (z.1, G.cup (z.1, mx z.2 k) k) k = false := by
      by_cases q : G.cnd (z.1, mx z.2 k) k = true
      · have q0 := q
        unfold Hd.cnd at q0
        have q1 : mx z.2 k = k := of_decide_eq_true (Bool.and_eq_true_iff.mp q0).1
        have e2 : G.cup (z.1, mx z.2 k) k = mx z.2 k + 1 := by unfold Hd.cup; rw [if_pos q]
        rw [e2]
        unfold Hd.cnd
        refine Bool.and_eq_false_iff.mpr (.inl (decide_eq_false ?_))
        show ¬ mx z.2 k + 1 = k
        omega
      · have q' : G.cnd (z.1, mx z.2 k) k = false := Bool.eq_false_iff.mpr q
        have e1 : G.hup n (z.1, mx z.2 k) k = G := by unfold Hd.hup; rw [if_neg q]
        have e2 : G.cup (z.1, mx z.2 k) k = mx z.2 k := by unfold Hd.cup; rw [if_neg q]
        rw [e1, e2]
        exact q'
    have th := hup_thing G n (z.1, mx z.2 k) k
    have wh := hup_wish G n (z.1, mx z.2 k) k
    generalize G.hup n (z.1, mx z.2 k) k = U at nc th wh
    generalize G.cup (z.1, mx z.2 k) k = c' at nc
    have e3 : U.hup n (z.1, c') k = U := by unfold Hd.hup; rw [if_neg (by rw [nc]; decide)]
    have e4 : U.cup (z.1, c') k = c' := by unfold Hd.cup; rw [if_neg (by rw [nc]; decide)]
    rw [e3, e4, th, wh]

/-! ### strides -/
def Hd.shut (h : Hd) (n lo hi : Int) : Int × Int := match look h.rows n with
  | none => (lo, lo - 1)
  | some z => if shrd z.1 = true then (if leaveB h.thing z.1 z.2 = true then (lo, lo - 1) else outS (ownS z.1 h.thing) lo hi) else outS z.1.2 (outS z.1.1 lo hi).1 (outS z.1.1 lo hi).2
def Hd.shuts (h : Hd) (lo hi : Int) : List (Int × Int) := ((h.rows.map fun r => h.shut r.1 lo hi)).filter fun p => decide (p.1 ≤ p.2)
def PsAt (H : Hp) : List Addr → List (Int × Int) → Prop
  | [], [] => True
  | a :: as, b :: bs => H a = some (.tup [.int b.1, .int b.2]) ∧ PsAt H as bs
  | _, _ => False
theorem PsAt.tk {H H' : Hp} (k : TupK H H') : ∀ {as : List Addr} {bs : List (Int × Int)}, PsAt H as bs → PsAt H' as bs
  | [], [], _ => trivial
  | _ :: _, _ :: _, ⟨a, c⟩ => ⟨k _ _ a, c.tk k⟩
  | [], _ :: _, h => h.elim
  | _ :: _, [], h => h.elim
theorem PsAt.app {H : Hp} {a : Addr} {b : Int × Int} (p : H a = some (.tup [.int b.1, .int b.2])) : ∀ {as : List Addr} {bs : List (Int × Int)}, PsAt H as bs → PsAt H (as ++ [a]) (bs ++ [b])
  | [], [], _ => ⟨p, trivial⟩
  | _ :: _, _ :: _, ⟨x, c⟩ => ⟨x, PsAt.app p c⟩
  | [], _ :: _, h => h.elim
  | _ :: _, [], h => h.elim
theorem PsAt.len {H : Hp} : ∀ {as : List Addr} {bs : List (Int × Int)}, PsAt H as bs → as.length = bs.length
  | [], [], _ => rfl
  | _ :: _, _ :: _, ⟨_, c⟩ => by rw [List.length_cons, List.length_cons, c.len]
  | [], _ :: _, h => h.elim
  | _ :: _, [], h => h.elim
theorem PsAt.at' {H : Hp} : ∀ {as : List Addr} {bs : List (Int × Int)} {i : Nat} {a : Addr}, PsAt H as bs → as[i]? = some a → ∃ b, bs[i]? = some b ∧ H a = some (.tup [.int b.1, .int b.2])
  | [], [], i, a, _, h => by cases h
  | x :: as, b :: bs, 0, a, ⟨e, _⟩, h => ⟨b, rfl, by cases h; exact e⟩
  | x :: as, b :: bs, i + 1, a, ⟨_, c⟩, h => PsAt.at' (as := as) (bs := bs) (i := i) c h
  | [], _ :: _, _, _, h, _ => h.elim
  | _ :: _, [], _, _, h, _ => h.elim
theorem shut1 {h : Hd} {n lo hi : Int} {z : Rl × Int} (e : look h.rows n = some z) (s : shrd z.1 = false) : h.shut n lo hi = outS z.1.2 (outS z.1.1 lo hi).1 (outS z.1.1 lo hi).2 := by
  unfold Hd.shut
  rw [e]
  exact if_neg (by rw [s]; decide)
theorem shut2 {h : Hd} {n lo hi : Int} {z : Rl × Int} (e : look h.rows n = some z) (s : shrd z.1 = true) (l : leaveB h.thing z.1 z.2 = true) : h.shut n lo hi = (lo, lo - 1) := by
  unfold Hd.shut
  rw [e]
  exact (if_pos s).trans (if_pos l)
theorem shut3 {h : Hd} {n lo hi : Int} {z : Rl × Int} (e : look h.rows n = some z) (s : shrd z.1 = true) (l : leaveB h.thing z.1 z.2 = false) : h.shut n lo hi = outS (ownS z.1 h.thing) lo hi := by
  unfold Hd.shut
  rw [e]
  exact (if_pos s).trans (if_neg (by rw [l]; decide))
theorem wipe_two {σ : L2.St} {i j : Nat} {a b : Option V} {m n : Str} : wipe (((wipe σ ([(m, i), (n, j)].map (·.2))).set i a).set j b) ([(m, i), (n, j)].map (·.2)) = wipe σ ([(m, i), (n, j)].map (·.2)) := by
  refine wipe_any (by rw [List.length_set, List.length_set, wipe_length]) fun k hk => ?_
  have h1 : i ≠ k := fun e => hk (by simp [e])
  have h2 : j ≠ k := fun e => hk (by simp [e])
  rw [List.getElem?_set_ne h2, List.getElem?_set_ne h1, wipe_get, if_neg hk]
def spShut (C : Addr) : Sp := fun vs H Q _ => ∃ (x D T : Addr) (h : Hd) (n lo hi : Int) (z : Rl × Int), vs = [.ref x, .int n, .int lo, .int hi] ∧ HandAt C H x D T h ∧ look h.rows n = some z ∧ ∀ H' g, Same H H' → H' g = some (.tup [.int (h.shut n lo hi).1, .int (h.shut n lo hi).2]) → Q (.ref g) H'
def spShuts (C : Addr) : Sp := fun vs H Q _ => ∃ (x D T : Addr) (h : Hd) (lo hi : Int), vs = [.ref x, .int lo, .int hi] ∧ HandAt C H x D T h ∧ D ≠ T ∧ (∃ kvs, H D = some (.dK kvs)) ∧ h.rows.length ≤ 40 ∧ ∀ H' g as, Same H H' → H' g = some (.lst (as.map V.ref)) → PsAt H' as (h.shuts lo hi) → Q (.ref g) H'
section
variable {P : Program} {w : World} {K : PySem.W.Frag} {mg : Str → Option Value} {base : Heap}
abbrev a_Hand_shut_span : Stmt := inClass (topS 18) 5
abbrev n_Hand_shut_span : List Str := ["self", "number", "low", "high", "rule", "least", "most"]
theorem sc_Hand_shut_span : FnScope n_Hand_shut_span ["self", "number", "low", "high"] (defScope a_Hand_shut_span) := ⟨rfl, rfl, rfl, by decide +kernel, rfl, by decide +kernel, by decide +kernel⟩
set_option maxHeartbeats 8000000 in
theorem ok_Hand_shut_span {f fIs fOs fOw : Addr} {fd fdIs fdOs fdOw : FuncData} {k : Nat} {C : Addr} (F : Fun K "shut_span" "Hand.shut_span" a_Hand_shut_span f fd) (Is : Kn P w K mg base 1 "is_shared" ["rule"] spShrd fIs fdIs) (Os : Kn P w K mg base 1 "out_span" ["side", "low", "high"] spOutS fOs fdOs) (Ow : Kn P w K mg base 1 "own_side" ["rule", "thing"] spOwnS fOw fdOw) (Le : C8.Met P w K mg base 5 C "has_leave" (spLeave C) []) (X : HandTxt K C)  : FnOk P w K mg base CX0 (k + 6) f fd ["self", "number", "low", "high"] (spShut C) := by
  refine F.ok sc_Hand_shut_span (fun vs H Q E h => ?_) (fun cdv A outer s H vs Q E hr h => ?_)
  · obtain ⟨x, D, T, h, n, lo, hi, z, rfl, _⟩ := h
    rfl
  · obtain ⟨x, D, T, h, n, lo, hi, z, rfl, ha, lk0, q⟩ := h
    refine ⟨_, (pss_cons (ps_set (i := 4) sc_Hand_shut_span.nd rfl (.inl rfl) (pe_dget (hu_of hr) (pe_fld (pv 0) rfl) (pv 1) (fun _ _ => rfl)))
      (pss_cons (ps_if (pt_not (pt_val (pe_kn Is hr (by omega) (pa_cons (pv 4) pa_nil)))) (pss_cons (ps_asg (pe_kn Os hr (by omega) (pa_cons (pe_ix ix_tup (pv 4) pe_int (fun _ _ => rfl)) (pa_cons (pv 2) (pa_cons (pv 3) pa_nil)))) (pg_tup rfl (pgs_cons (pg_name (i := 5) sc_Hand_shut_span.nd rfl (.inl rfl)) (pgs_cons (pg_name (i := 6) sc_Hand_shut_span.nd rfl (.inl rfl)) pgs_nil))))
      (pss_one (ps_ret (pe_kn Os hr (by omega) (pa_cons (pe_ix ix_tup (pv 4) pe_int (fun _ _ => rfl)) (pa_cons (pv 5) (pa_cons (pv 6) pa_nil))))))) pss_nil)
      (pss_cons (ps_if (pt_val (C8.pe_mt Le hr (by omega) (pv 0) (pa_cons (pv 1) pa_nil))) (pss_one (ps_ret (pe_tup (pa_cons (pv 2) (pa_cons (pe_op op_sub (pv 2) pe_int) pa_nil))))) pss_nil)
      (pss_one (ps_ret (pe_kn Os hr (by omega) (pa_cons (pe_kn Ow hr (by omega) (pa_cons (pv 4) (pa_cons (pe_fld (pv 0) rfl) pa_nil))) (pa_cons (pv 2) (pa_cons (pv 3) pa_nil))))))))), ?_⟩
    have ha0 := ha
    obtain ⟨dx, v, hs, e, w1, d, t, l⟩ := ha
    obtain ⟨rl, c⟩ := z
    rcases valH n l with ⟨a1, a2⟩ | ⟨q', c', a, a1, a2, a3⟩
    · rw [lk0] at a1
      cases a1
    rw [lk0] at a1
    cases a1
    have a30 := a3
    obtain ⟨p1, p2, er, g1, g2⟩ := a30
    refine ⟨.ref x, rfl, x, C, dx, _, _, rfl, e, X.cl, X.n4, lk4, .int n, rfl, D, .ref a, rfl, a2 ▸ DGr (k := .inl n) d, ?_⟩
    dsimp only [List.set]
    refine ⟨_, rfl, a, rl, rfl, a3, shrd rl, rfl, ?_⟩
    cases hq : shrd rl with
    | false =>
      rw [shut1 lk0 hq] at q
      refine iteT ⟨_, rfl, a, _, 0, .ref p1, rfl, rfl, .inl (.inl er), atI_nat (j := 0) rfl, _, rfl, _, rfl, p1, rl.1, lo, hi, rfl, g1, fun H1 o s1 eo => ?_⟩
      refine ⟨o, _, rfl, .inl (.inl eo), rfl, _, _, rfl, _, _, rfl, rfl, ?_⟩
      dsimp only [List.set]
      exact ⟨_, rfl, a, _, 1, .ref p2, rfl, rfl, .inl (.inl (s1 _ _ er)), atI_nat (j := 1) rfl, _, rfl, _, rfl, p2, rl.2, _, _, rfl, g2.keep (.same s1), fun H2 o2 s2 e2 => q H2 o2 (s1.trans s2) e2⟩
    | true =>
      refine iteF ⟨.ref x, rfl, x, dx, _, rfl, e, lkm, .int n, rfl, x, D, T, h, n, rl, c, rfl, ha0, lk0, hq, fun H1 s1 => ⟨leaveB h.thing rl c, rfl, ?_⟩⟩
      cases hl : leaveB h.thing rl c with
      | true =>
        rw [shut2 lk0 hq hl] at q
        refine iteT ⟨_, rfl, _, rfl, _, 1, rfl, rfl, (show 2 ≤ sizeLine by decide), fun g ng => ?_⟩
        exact q _ g (s1.trans (same_new ng)) upd_same
      | false =>
        rw [shut3 lk0 hq hl] at q
        exact iteF ⟨_, rfl, .ref x, rfl, x, C, dx, _, _, rfl, s1 _ _ e, X.cl, X.n1, lk1, a, rl, h.thing, rfl, a3.keep (.same s1), fun p5 e5 => ⟨_, rfl, _, rfl, p5, _, lo, hi, rfl, e5, fun H2 o2 s2 e2 => q H2 o2 (s1.trans s2) e2⟩⟩
abbrev a_Hand_shut_spans : Stmt := inClass (topS 18) 6
abbrev n_Hand_shut_spans : List Str := ["self", "low", "high", "spans", "number", "least", "most"]
theorem sc_Hand_shut_spans : FnScope n_Hand_shut_spans ["self", "low", "high"] (defScope a_Hand_shut_spans) := ⟨rfl, rfl, rfl, by decide +kernel, rfl, by decide +kernel, by decide +kernel⟩
set_option maxHeartbeats 8000000 in
theorem ok_Hand_shut_spans {f  : Addr} {fd  : FuncData} {k : Nat} {C : Addr} (F : Fun K "shut_spans" "Hand.shut_spans" a_Hand_shut_spans f fd) (Ss : C8.Met P w K mg base 6 C "shut_span" (spShut C) []) (X : HandTxt K C)  : FnOk P w K mg base CX0 (k + 7) f fd ["self", "low", "high"] (spShuts C) := by
  refine F.ok sc_Hand_shut_spans (fun vs H Q E h => ?_) (fun cdv A outer s H vs Q E hr h => ?_)
  · obtain ⟨x, D, T, h, lo, hi, rfl, _⟩ := h
    rfl
  · obtain ⟨x, D, T, h, lo, hi, rfl, ha, hDT, hD, l40, q⟩ := h
    refine ⟨_, (pss_cons (ps_lock (ps_setLc (i := 3) (own := [("number", 4)]) (g := (gName 4)) (tt := tYes) (te := (tMeth C "shut_span" (spShut C) [] E0 (tVar 0) (tCons (tVar 4) (tCons (tVar 1) (tCons (tVar 2) tNil))))) rfl sc_Hand_shut_spans.nd rfl rfl (sw_true rfl rfl rfl (by decide +kernel)) (pi_keys (pe_fld (pv 0) rfl)) (blkOk_by (N := n_Hand_shut_spans) (sc := defScope a_Hand_shut_spans) (by decide +kernel))
          (fun _ _ _ _ _ => (pg_name (i := 4) sc_Hand_shut_spans.nd rfl (.inl rfl) (hf := .inr rfl))) (fun _ _ _ _ _ => pts_nil) (fun _ _ _ _ _ => (C8.pe_mt Ss hr (by omega) (pv 0) (pa_cons (pv 4) (pa_cons (pv 1) (pa_cons (pv 2) pa_nil)))))))
      (pss_one (ps_ret (
        pe_lc (own := [("least", 5), ("most", 6)]) (g := (gTup K 2 (gCons (gName 5) (gCons (gName 6) gNil)))) (tt := (tTest (tOp (rI0 fun i j => .bl (decide (i ≤ j))) (tVar 5) (tVar 6)))) (te := (tTup (tCons (tVar 5) (tCons (tVar 6) tNil)))) rfl sc_Hand_shut_spans.nd (pi_list (pv 3)) (blkOk_by (N := n_Hand_shut_spans) (sc := defScope a_Hand_shut_spans) (by decide +kernel))
          (fun _ _ _ _ _ => (pg_tup rfl (pgs_cons (pg_name (i := 5) sc_Hand_shut_spans.nd rfl (.inl rfl) (hf := .inr rfl)) (pgs_cons (pg_name (i := 6) sc_Hand_shut_spans.nd rfl (.inl rfl) (hf := .inr rfl)) pgs_nil)))) (fun _ _ _ _ _ => pts_one (pt_cmpR op_le (pv 5) (pv 6) (nomark _))) (fun _ _ _ _ _ => (pe_tup (pa_cons (pv 5) (pa_cons (pv 6) pa_nil)))))))), ?_⟩
    obtain ⟨dx, v, hs, e, w1, d, t, l⟩ := ha
    have d0 : H D = some (.dK (kvH hs)) := by
      obtain ⟨kvs, hk⟩ := hD
      rcases d with d | ⟨od, d⟩
      · exact d
      · rw [hk] at d
        cases d
    have nxD : x ≠ D := (rn (.inl d0) e).symm
    refine ⟨D, _, d0, trivial, fun od => ?_⟩
    have tkL : TupK H (upd H D (.frz od (.dK (kvH hs)))) := fun b xs eb => (upd_ne (fun z => by rw [z, d0] at eb; cases eb)).trans eb
    have haL : HandAt C (upd H D (.frz od (.dK (kvH hs)))) x D T h := ⟨dx, v, hs, (upd_ne nxD).trans e, w1.tk tkL, .inr ⟨od, upd_same⟩, (upd_ne hDT.symm).trans t, l.tk tkL⟩
    have eL : (upd H D (.frz od (.dK (kvH hs)))) x = some (.ins C dx [("thing", .int (h.thing : Int)), ("place", .int h.place), ("wish", v), ("held", .ref D), ("tally", .ref T)]) := (upd_ne nxD).trans e
    have dL : (upd H D (.frz od (.dK (kvH hs)))) D = some (.frz od (.dK (kvH hs))) := upd_same
    have bL : ∀ b o, b ≠ D → H b = some o → (upd H D (.frz od (.dK (kvH hs)))) b = some o := fun b o n eb => (upd_ne n).trans eb
    generalize upd H D (.frz od (.dK (kvH hs))) = HL at haL eL dL bL ⊢
    have kl : (kvH hs).length = h.rows.length := by
      have := congrArg List.length l.keys
      rw [List.length_map, List.length_map] at this
      unfold kvH
      rw [List.length_map, this]
    refine ⟨.ref x, rfl, x, C, dx, _, _, rfl, eL, X.cl, X.n4, lk4, D, od, rfl, .inl ⟨kvH hs, dL, fun G nG => lc_it (walk_keys (kvs := kvH hs)) (fun i H' => Same HL H' ∧ ∃ as, H' G = some (.lst (as.map V.ref)) ∧ PsAt H' as ((h.rows.map fun r => h.shut r.1 lo hi).take i)) ⟨same_new nG, [], upd_same, trivial⟩ (fun i H' _ z => z.1 _ _ dL) (fun i u H3 H4 hik y z => ?_) (fun H3 y => ?_)⟩⟩
    · obtain ⟨s3, as, eG, pA⟩ := y
      obtain ⟨rfl, k, v', ek, rfl⟩ := z
      obtain ⟨r, er⟩ : ∃ r, h.rows[i]? = some r := ⟨_, List.getElem?_eq_getElem (by omega)⟩
      have ek2 : k = Sum.inl r.1 := by
        have h1 : (hs.map (·.1))[i]? = (h.rows.map (·.1))[i]? := by rw [l.keys]
        rw [List.getElem?_map, List.getElem?_map, er] at h1
        unfold kvH at ek
        rw [List.getElem?_map] at ek
        cases hz : hs[i]? with
        | none =>
          rw [hz] at ek
          cases ek
        | some z0 =>
          rw [hz] at ek h1
          have h2 : z0.1 = r.1 := Option.some.inj h1
          have h3 := Option.some.inj ek
          rw [← h2]
          exact (Prod.ext_iff.mp h3).1.symm
      subst ek2
      obtain ⟨q0, c0, lk0⟩ := look_of (List.mem_map_of_mem (f := fun r : Int × Rl × Int => r.1) (List.mem_of_getElem? er))
      have la : as.length ≤ 40 := by
        rw [pA.len, List.length_take, List.length_map]
        exact Nat.le_trans (Nat.min_le_right _ _) l40
      refine ⟨rfl, .ref x, rfl, x, dx, _, rfl, s3 _ _ eL, lkm, _, rfl, _, rfl, _, rfl, x, D, T, h, r.1, lo, hi, (q0, c0), rfl, haL.same s3, lk0, fun H5 g s5 eg => ?_⟩
      have eG5 := s5 _ _ eG
      have kG : TupK H5 (upd H5 G (.lst (as.map V.ref ++ [V.ref g]))) := fun b xs eb => (upd_ne (fun z => by rw [z, eG5] at eb; cases eb)).trans eb
      refine ⟨_, eG5, by rw [List.length_map]; exact small1000 (by omega), same_over (s3.trans s5) nG, as ++ [g], by rw [upd_same, List.map_append]; rfl, ?_⟩
      have e6 : (h.rows.map fun r => h.shut r.1 lo hi).take (i + 1) = (h.rows.map fun r => h.shut r.1 lo hi).take i ++ [h.shut r.1 lo hi] := by
        rw [List.take_add_one, List.getElem?_map, er]
        rfl
      rw [e6]
      exact PsAt.app (kG _ _ eg) ((pA.tk (tk_same s5)).tk kG)
    obtain ⟨s3, as, eG, pA⟩ := y
    rw [List.take_of_length_le (by rw [List.length_map, kl]; exact Nat.le_refl _)] at pA
    have dL3 := s3 _ _ dL
    refine ⟨dL3, ?_⟩
    have nGD : G ≠ D := fun z => by rw [z, dL3] at eG; cases eG
    have s04 : Same H (upd H3 D (.dK (kvH hs))) := fun b o eb => by
      by_cases hb : b = D
      · rw [hb, upd_same, ← d0, ← hb]
        exact eb
      · rw [upd_ne hb]
        exact s3 _ _ (bL b o hb eb)
    have eG4 : (upd H3 D (.dK (kvH hs))) G = some (.lst (as.map V.ref)) := (upd_ne nGD).trans eG
    have pA4 : PsAt (upd H3 D (.dK (kvH hs))) as (h.rows.map fun r => h.shut r.1 lo hi) := pA.tk fun b xs eb => (upd_ne (fun z => by rw [z, dL3] at eb; cases eb)).trans eb
    generalize upd H3 D (.dK (kvH hs)) = H4 at s04 eG4 pA4 ⊢
    dsimp only [List.set]
    have la : as.length ≤ 40 := by
      rw [pA4.len, List.length_map]
      exact l40
    refine ⟨.ref G, rfl, G, rfl, ⟨_, .inl (.inl eG4)⟩, fun W nW => lc_it (walk_list (xs := as.map V.ref)) (fun i H' => Same H4 H' ∧ ∃ bs, H' W = some (.lst (bs.map V.ref)) ∧ PsAt H' bs (((h.rows.map fun r => h.shut r.1 lo hi).take i).filter fun p => decide (p.1 ≤ p.2))) ⟨same_new nW, [], upd_same, trivial⟩ (fun i H' _ z => .inl (.inl (z.1 _ _ eG4))) (fun i u H5 H6 hik y z => ?_) (fun H5 y => ?_)⟩
    · obtain ⟨s5, bs, eW, pB⟩ := y
      obtain ⟨rfl, gv⟩ := z
      obtain ⟨a, ea, rfl⟩ := mapGet gv
      obtain ⟨b, eb, hb⟩ := PsAt.at' pA4 ea
      have hb5 := s5 _ _ hb
      have e6 : ((h.rows.map fun r => h.shut r.1 lo hi).take (i + 1)).filter (fun p => decide (p.1 ≤ p.2)) = ((h.rows.map fun r => h.shut r.1 lo hi).take i).filter (fun p => decide (p.1 ≤ p.2)) ++ if decide (b.1 ≤ b.2) = true then [b] else [] := by
        rw [List.take_add_one, eb, List.filter_append]
        congr 1
        show [b].filter (fun p => decide (p.1 ≤ p.2)) = _
        cases hq : decide (b.1 ≤ b.2) <;> simp [hq]
      have lb : bs.length ≤ 40 := by
        rw [pB.len]
        refine Nat.le_trans (List.length_filter_le _ _) ?_
        rw [List.length_take, List.length_map]
        exact Nat.le_trans (Nat.min_le_right _ _) l40
      refine ⟨a, _, rfl, .inl (.inl hb5), rfl, _, _, rfl, _, _, rfl, rfl, wipe_two, _, rfl, _, rfl, _, _, rfl, rfl, decide (b.1 ≤ b.2), rfl, ?_⟩
      rw [e6]
      cases hq : decide (b.1 ≤ b.2) with
      | false =>
        refine iteF ⟨s5, bs, eW, ?_⟩
        rw [if_neg (by decide), List.append_nil]
        exact pB
      | true =>
        refine iteT ⟨_, rfl, _, rfl, (show 2 ≤ sizeLine by decide), fun M nM => ?_⟩
        have sM := same_new (o := HO.tup [V.int b.1, V.int b.2]) nM
        have eM : (upd H6 M (.tup [V.int b.1, V.int b.2])) M = some (.tup [V.int b.1, V.int b.2]) := upd_same
        have eW7 := sM _ _ eW
        have pB7 := pB.tk (tk_same sM)
        have s7 := s5.trans sM
        generalize upd H6 M (.tup [V.int b.1, V.int b.2]) = H7 at eM eW7 pB7 s7 ⊢
        have kW : TupK H7 (upd H7 W (.lst (bs.map V.ref ++ [V.ref M]))) := fun b xs eb => (upd_ne (fun z => by rw [z, eW7] at eb; cases eb)).trans eb
        refine ⟨_, eW7, by rw [List.length_map]; exact small1000 (by omega), same_over s7 nW, bs ++ [M], by rw [upd_same, List.map_append]; rfl, ?_⟩
        rw [if_pos rfl]
        exact PsAt.app (kW _ _ eM) (pB7.tk kW)
    · obtain ⟨s5, bs, eW, pB⟩ := y
      rw [List.take_of_length_le (by rw [List.length_map, List.length_map, pA4.len, List.length_map]; exact Nat.le_refl _)] at pB
      exact q H5 W bs (s04.trans s5) eW pB
end
end K64

set_option Elab.async false
set_option linter.all false
set_option maxRecDepth 100000
namespace K64
open PySem PySem.Spec PyProof.Rows L2 NB

/-! ### a stride -/
def StP (h : Hd) (p : Int) : Prop := (h.place < h.goal ∧ p ∈ ((h.shuts (h.place + 1) h.goal).map fun z => z.1 - 1) ++ [h.goal] ∧ ∀ y ∈ ((h.shuts (h.place + 1) h.goal).map fun z => z.1 - 1) ++ [h.goal], p ≤ y) ∨
  (h.goal < h.place ∧ p ∈ ((h.shuts h.goal (h.place - 1)).map fun z => z.2 + 1) ++ [h.goal] ∧ ∀ y ∈ ((h.shuts h.goal (h.place - 1)).map fun z => z.2 + 1) ++ [h.goal], y ≤ p) ∨ (h.goal = h.place ∧ p = h.place)
theorem StP.uniq {h : Hd} {p p' : Int} (a : StP h p) (b : StP h p') : p = p' := by
  rcases a with ⟨g, m, l⟩ | ⟨g, m, l⟩ | ⟨g, rfl⟩
  · rcases b with ⟨g', m', l'⟩ | ⟨g', _⟩ | ⟨g', _⟩
    · have := l _ m'
      have := l' _ m
      omega
    · omega
    · omega
  · rcases b with ⟨g', _⟩ | ⟨g', m', l'⟩ | ⟨g', _⟩
    · omega
    · have := l _ m'
      have := l' _ m
      omega
    · omega
  · rcases b with ⟨g', _⟩ | ⟨g', _⟩ | ⟨_, e⟩
    · omega
    · omega
    · exact e.symm
theorem put_place (i p v d t u : V) : putF "place" u [("thing", i), ("place", p), ("wish", v), ("held", d), ("tally", t)] = ([("thing", i), ("place", u), ("wish", v), ("held", d), ("tally", t)] : List (Str × V)) := by
  have n1 : ¬ (("thing" : Str) = "place") := by decide +kernel
  simp [putF, n1]
theorem HandAt.place {C : Addr} {H : Hp} {x D T dx : Addr} {h : Hd} {v : V} {hs : List (Int × Addr)} {p : Int} (e : HandF C H x dx v D T h) (wv : WV H v h.wish) (d : Rd H D (.dK (kvH hs))) (t : H T = some (.dK (kvT h.rows))) (l : Held H hs h.rows) :
    HandAt C (upd H x (.ins C dx [("thing", .int (h.thing : Int)), ("place", .int p), ("wish", v), ("held", .ref D), ("tally", .ref T)])) x D T { h with place := p } ∧ ButH x T H (upd H x (.ins C dx [("thing", .int (h.thing : Int)), ("place", .int p), ("wish", v), ("held", .ref D), ("tally", .ref T)])) := by
  have e' : H x = some (.ins C dx [("thing", .int (h.thing : Int)), ("place", .int h.place), ("wish", v), ("held", .ref D), ("tally", .ref T)]) := e
  have tk : TupK H (upd H x (.ins C dx [("thing", .int (h.thing : Int)), ("place", .int p), ("wish", v), ("held", .ref D), ("tally", .ref T)])) := fun b xs eb => (upd_ne (fun q => by rw [q, e'] at eb; cases eb)).trans eb
  exact ⟨⟨dx, v, hs, upd_same, wv.tk tk, ru (rn d e') d, (upd_ne (fun q => by rw [q, e'] at t; cases t)).trans t, l.tk tk⟩, fun b o n1 _ eb => (upd_ne n1).trans eb⟩
def spStride (C : Addr) : Sp := fun vs H Q _ => ∃ (x D T : Addr) (h : Hd), vs = [.ref x] ∧ HandAt C H x D T h ∧ D ≠ T ∧ (∃ kvs, H D = some (.dK kvs)) ∧ h.rows.length ≤ 40 ∧ (∀ w, h.wish = some w → h.thing < w.2.length) ∧
  ∀ H' p, ButH x T H H' → HandAt C H' x D T { h with place := p } → StP h p → Q (.int (if p - h.place < 0 then -(p - h.place) else p - h.place)) H'
section
variable {P : Program} {w : World} {K : PySem.W.Frag} {mg : Str → Option Value} {base : Heap}
abbrev a_Hand_stride : Stmt := inClass (topS 18) 8
abbrev n_Hand_stride : List Str := ["self", "here", "goal", "least", "most"]
theorem sc_Hand_stride : FnScope n_Hand_stride ["self"] (defScope a_Hand_stride) := ⟨rfl, rfl, rfl, by decide +kernel, rfl, by decide +kernel, by decide +kernel⟩
set_option maxHeartbeats 8000000 in
theorem ok_Hand_stride {f  : Addr} {fd  : FuncData} {k : Nat} {C : Addr} (F : Fun K "stride" "Hand.stride" a_Hand_stride f fd) (Wp : C8.Met P w K mg base 1 C "wished_place" (spGoal C) []) (Ss : C8.Met P w K mg base 7 C "shut_spans" (spShuts C) []) (X : HandTxt K C) (m_abs : mg "abs" = none) (m_max : mg "max" = none) (m_min : mg "min" = none) : FnOk P w K mg base CX0 (k + 8) f fd ["self"] (spStride C) := by
  refine F.ok sc_Hand_stride (fun vs H Q E h => ?_) (fun cdv A outer s H vs Q E hr h => ?_)
  · obtain ⟨x, D, T, h, rfl, _⟩ := h
    rfl
  · obtain ⟨x, D, T, h, rfl, ha, hDT, hD, l40, hw, q⟩ := h
    refine ⟨_, (pss_cons (ps_par (i := 1) (j := 2) (by rfl) sc_Hand_stride.nd rfl rfl (by decide) rfl rfl (pa_cons (pe_fld (pv 0) rfl) (pa_cons (C8.pe_mt0 Wp hr (by omega) (pv 0)) pa_nil)) (by rfl))
      (C8.pss_cut (ps_if (pt_cmpR op_gt (pv 2) (pv 1) (nomark _)) (pss_one (ps_fld (pv 0) (pe_callB (cr_min rfl) (by rfl) m_min (by decide +kernel) (pa_cons (pe_op op_cat (
        pe_lc (own := [("least", 3), ("most", 4)]) (g := (gTup K 2 (gCons (gName 3) (gCons (gName 4) gNil)))) (tt := tYes) (te := (tOp (rI0 fun i j => .int (i - j)) (tVar 3) (tC (.int 1)))) rfl sc_Hand_stride.nd (pi_list (C8.pe_mt Ss hr (by omega) (pv 0) (pa_cons (pe_op op_add (pv 1) pe_int) (pa_cons (pv 2) pa_nil)))) (blkOk_by (N := n_Hand_stride) (sc := defScope a_Hand_stride) (by decide +kernel))
          (fun _ _ _ _ _ => (pg_tup rfl (pgs_cons (pg_name (i := 3) sc_Hand_stride.nd rfl (.inl rfl) (hf := .inr rfl)) (pgs_cons (pg_name (i := 4) sc_Hand_stride.nd rfl (.inl rfl) (hf := .inr rfl)) pgs_nil)))) (fun _ _ _ _ _ => pts_nil) (fun _ _ _ _ _ => (pe_op (r := rI0 fun i j => .int (i - j)) op_sub (pv 3) pe_int))) (pe_lst (pa_cons (pv 2) pa_nil))) pa_nil)) rfl)) (pss_one (ps_if (pt_cmpR op_lt (pv 2) (pv 1) (nomark _)) (pss_one (ps_fld (pv 0) (pe_callB (cr_max rfl) (by rfl) m_max (by decide +kernel) (pa_cons (pe_op op_cat (
        pe_lc (own := [("least", 3), ("most", 4)]) (g := (gTup K 2 (gCons (gName 3) (gCons (gName 4) gNil)))) (tt := tYes) (te := (tOp (rI0 fun i j => .int (i + j)) (tVar 4) (tC (.int 1)))) rfl sc_Hand_stride.nd (pi_list (C8.pe_mt Ss hr (by omega) (pv 0) (pa_cons (pv 2) (pa_cons (pe_op op_sub (pv 1) pe_int) pa_nil)))) (blkOk_by (N := n_Hand_stride) (sc := defScope a_Hand_stride) (by decide +kernel))
          (fun _ _ _ _ _ => (pg_tup rfl (pgs_cons (pg_name (i := 3) sc_Hand_stride.nd rfl (.inl rfl) (hf := .inr rfl)) (pgs_cons (pg_name (i := 4) sc_Hand_stride.nd rfl (.inl rfl) (hf := .inr rfl)) pgs_nil)))) (fun _ _ _ _ _ => pts_nil) (fun _ _ _ _ _ => (pe_op (r := rI0 fun i j => .int (i + j)) op_add (pv 4) pe_int))) (pe_lst (pa_cons (pv 2) pa_nil))) pa_nil)) rfl)) pss_nil)))
      (pss_one (ps_ret (pe_callB call_abs (by rfl) m_abs (by decide +kernel) (pa_cons (pe_op op_sub (pe_fld (pv 0) rfl) (pv 1)) pa_nil)))))), ?_⟩
    have ha0 := ha
    obtain ⟨dx, v, hs, e, w1, d, t, l⟩ := ha
    have gt := hw
    refine ⟨.ref x, rfl, x, C, dx, _, _, rfl, e, X.cl, X.n2, lk2, .ref x, rfl, x, dx, _, rfl, e, lkm, x, D, T, h, rfl, ha0, hw, _, _, rfl, ?_⟩
    dsimp only [List.set]
    refine ⟨fun σ H' => (∃ u3 u4, σ = [some (.ref x), some (.int h.place), some (.int h.goal), u3, u4]) ∧ ∃ p, ButH x T H H' ∧ HandAt C H' x D T { h with place := p } ∧ StP h p, ?_, fun σ H1 y => ?_⟩
    · refine ⟨_, rfl, _, rfl, _, _, rfl, rfl, _, rfl, ite2 (fun c => ?_) (fun c => ?_)⟩
      · have c' := of_decide_eq_true c
        refine ⟨.ref x, rfl, x, dx, _, rfl, e, lkm, _, rfl, _, 1, rfl, rfl, _, rfl, x, D, T, h, (h.place + 1), h.goal, rfl, ha0, hDT, hD, l40, fun H1 S as s1 eS pS => ?_⟩
        have la : as.length ≤ 40 := by
          rw [pS.len]
          unfold Hd.shuts
          refine Nat.le_trans (List.length_filter_le _ _) ?_
          rw [List.length_map]
          exact l40
        generalize hss : h.shuts (h.place + 1) h.goal = ss at pS
        refine ⟨S, rfl, ⟨_, .inl (.inl eS)⟩, fun G nG => lc_it (walk_list (xs := as.map V.ref)) (fun i H' => Same H1 H' ∧ H' G = some (.lst (((ss.map fun z : Int × Int => z.1 - 1).take i).map V.int))) ⟨same_new nG, upd_same⟩ (fun i H' _ z => .inl (.inl (z.1 _ _ eS))) (fun i u H2 H3 hik y z => ?_) (fun H2 y => ?_)⟩
        · obtain ⟨sm, eG⟩ := y
          obtain ⟨rfl, gv⟩ := z
          obtain ⟨a, ea, rfl⟩ := mapGet gv
          obtain ⟨b, eb, hb⟩ := PsAt.at' pS ea
          refine ⟨a, _, rfl, .inl (.inl (sm _ _ hb)), rfl, _, _, rfl, _, _, rfl, rfl, wipe_two, _, rfl, _, 1, rfl, rfl, _, eG, ?_, same_over sm nG, ?_⟩
          · rw [List.length_map, List.length_take, List.length_map, ← pS.len]
            exact small1000 (Nat.le_trans (Nat.min_le_right _ _) (by omega))
          · rw [upd_same, List.take_add_one, List.getElem?_map, eb, List.map_append]
            rfl
        obtain ⟨sm, eG⟩ := y
        rw [List.take_of_length_le (by rw [List.length_map, List.length_map, pS.len]; exact Nat.le_refl _)] at eG
        refine ⟨_, rfl, (show 1 ≤ sizeLine by decide), fun M nM => ?_⟩
        have sM := same_new (o := HO.lst [V.int h.goal]) nM
        refine ⟨G, M, _, _, rfl, rfl, sM _ _ eG, upd_same, by rw [List.length_map, List.length_map, ← pS.len]; exact Nat.le_trans (show as.length + 1 ≤ 41 by omega) (by decide), fun N nN => ?_⟩
        have sN := (s1.trans sm).trans (sM.trans (same_new (o := .lst ((ss.map fun z : Int × Int => z.1 - 1).map V.int ++ [V.int h.goal])) nN))
        have eN : (upd (upd H2 M (.lst [V.int h.goal])) N (.lst ((ss.map fun z : Int × Int => z.1 - 1).map V.int ++ [V.int h.goal]))) N = some (.lst (((ss.map fun z : Int × Int => z.1 - 1) ++ [h.goal]).map V.int)) := by
          rw [upd_same, List.map_append]
          rfl
        generalize upd (upd H2 M (.lst [V.int h.goal])) N (.lst ((ss.map fun z : Int × Int => z.1 - 1).map V.int ++ [V.int h.goal])) = H5 at sN eN ⊢
        refine ⟨N, _, rfl, .inl (.inl eN), by rw [List.length_append]; exact Nat.lt_of_lt_of_le Nat.zero_lt_one (Nat.le_add_left _ _), fun m hm hle => ?_⟩
        have e5 := sN _ _ e
        obtain ⟨a5, b5⟩ := HandAt.place (p := m) e5 (w1.tk (tk_same sN)) (rs sN d) (sN _ _ t) (l.tk (tk_same sN))
        refine ⟨.ref x, rfl, x, C, dx, _, rfl, e5, X.cl, X.n2, (show 5 < 1000 by decide), ?_⟩
        rw [put_place]
        refine ⟨⟨_, _, rfl⟩, m, (ButH.of sN).trans b5, a5, ?_⟩
        subst hss
        exact (.inl ⟨c', hm, hle⟩)
      · have c' := of_decide_eq_false (Bool.eq_false_iff.mpr c)
        refine ⟨_, rfl, _, rfl, _, _, rfl, rfl, _, rfl, ite2 (fun c2 => ?_) (fun c2 => ?_)⟩
        · have c3 := of_decide_eq_true c2
          refine ⟨.ref x, rfl, x, dx, _, rfl, e, lkm, _, rfl, _, rfl, _, 1, rfl, rfl, x, D, T, h, h.goal, (h.place - 1), rfl, ha0, hDT, hD, l40, fun H1 S as s1 eS pS => ?_⟩
          have la : as.length ≤ 40 := by
            rw [pS.len]
            unfold Hd.shuts
            refine Nat.le_trans (List.length_filter_le _ _) ?_
            rw [List.length_map]
            exact l40
          generalize hss : h.shuts h.goal (h.place - 1) = ss at pS
          refine ⟨S, rfl, ⟨_, .inl (.inl eS)⟩, fun G nG => lc_it (walk_list (xs := as.map V.ref)) (fun i H' => Same H1 H' ∧ H' G = some (.lst (((ss.map fun z : Int × Int => z.2 + 1).take i).map V.int))) ⟨same_new nG, upd_same⟩ (fun i H' _ z => .inl (.inl (z.1 _ _ eS))) (fun i u H2 H3 hik y z => ?_) (fun H2 y => ?_)⟩
          · obtain ⟨sm, eG⟩ := y
            obtain ⟨rfl, gv⟩ := z
            obtain ⟨a, ea, rfl⟩ := mapGet gv
            obtain ⟨b, eb, hb⟩ := PsAt.at' pS ea
            refine ⟨a, _, rfl, .inl (.inl (sm _ _ hb)), rfl, _, _, rfl, _, _, rfl, rfl, wipe_two, _, rfl, _, 1, rfl, rfl, _, eG, ?_, same_over sm nG, ?_⟩
            · rw [List.length_map, List.length_take, List.length_map, ← pS.len]
              exact small1000 (Nat.le_trans (Nat.min_le_right _ _) (by omega))
            · rw [upd_same, List.take_add_one, List.getElem?_map, eb, List.map_append]
              rfl
          obtain ⟨sm, eG⟩ := y
          rw [List.take_of_length_le (by rw [List.length_map, List.length_map, pS.len]; exact Nat.le_refl _)] at eG
          refine ⟨_, rfl, (show 1 ≤ sizeLine by decide), fun M nM => ?_⟩
          have sM := same_new (o := HO.lst [V.int h.goal]) nM
          refine ⟨G, M, _, _, rfl, rfl, sM _ _ eG, upd_same, by rw [List.length_map, List.length_map, ← pS.len]; exact Nat.le_trans (show as.length + 1 ≤ 41 by omega) (by decide), fun N nN => ?_⟩
          have sN := (s1.trans sm).trans (sM.trans (same_new (o := .lst ((ss.map fun z : Int × Int => z.2 + 1).map V.int ++ [V.int h.goal])) nN))
          have eN : (upd (upd H2 M (.lst [V.int h.goal])) N (.lst ((ss.map fun z : Int × Int => z.2 + 1).map V.int ++ [V.int h.goal]))) N = some (.lst (((ss.map fun z : Int × Int => z.2 + 1) ++ [h.goal]).map V.int)) := by
            rw [upd_same, List.map_append]
            rfl
          generalize upd (upd H2 M (.lst [V.int h.goal])) N (.lst ((ss.map fun z : Int × Int => z.2 + 1).map V.int ++ [V.int h.goal])) = H5 at sN eN ⊢
          refine ⟨N, _, rfl, .inl (.inl eN), by rw [List.length_append]; exact Nat.lt_of_lt_of_le Nat.zero_lt_one (Nat.le_add_left _ _), fun m hm hle => ?_⟩
          have e5 := sN _ _ e
          obtain ⟨a5, b5⟩ := HandAt.place (p := m) e5 (w1.tk (tk_same sN)) (rs sN d) (sN _ _ t) (l.tk (tk_same sN))
          refine ⟨.ref x, rfl, x, C, dx, _, rfl, e5, X.cl, X.n2, (show 5 < 1000 by decide), ?_⟩
          rw [put_place]
          refine ⟨⟨_, _, rfl⟩, m, (ButH.of sN).trans b5, a5, ?_⟩
          subst hss
          exact (.inr (.inl ⟨c3, hm, hle⟩))
        · have c3 := of_decide_eq_false (Bool.eq_false_iff.mpr c2)
          exact ⟨⟨_, _, rfl⟩, h.place, fun _ _ _ _ e => e, ha0, .inr (.inr ⟨by omega, rfl⟩)⟩
    · obtain ⟨⟨u3, u4, rfl⟩, p, b1, ha1, sp⟩ := y
      have ha1' := ha1
      obtain ⟨dx1, v1, hs1, e1, w11, d1, t1, l1⟩ := ha1'
      exact ⟨.ref x, rfl, x, C, dx1, _, _, rfl, e1, X.cl, X.n2, lk2, _, rfl, _, _, rfl, rfl, _, rfl, q H1 p b1 ha1 sp⟩
end
end K64

set_option Elab.async false
set_option linter.all false
set_option maxRecDepth 100000
namespace K64
open PySem PySem.Spec PyProof.Rows L2 NB

/-! ### the law's own record of a hand -/
def shR (rows : List (Int × Rl × Int)) : List (Int × Rl × Int) := rows.filter fun r => shrd r.2.1
def kvO (h : Hd) (v : V) (D T : Addr) : List (Key × V) := [(Sum.inr "thing", .int (h.thing : Int)), (Sum.inr "place", .int h.place), (Sum.inr "wish", v), (Sum.inr "rules", .ref D), (Sum.inr "counts", .ref T)]
def OwnAt (H : Hp) (O D T : Addr) (h : Hd) : Prop := ∃ v hs, H O = some (.dK (kvO h v D T)) ∧ WV H v h.wish ∧ Rd H D (.dK (kvH hs)) ∧ Rd H T (.dK (kvT (shR h.rows))) ∧ Held H hs h.rows
theorem OwnAt.same {H H' : Hp} {O D T : Addr} {h : Hd} (a : OwnAt H O D T h) (s : Same H H') : OwnAt H' O D T h := by
  obtain ⟨v, hs, e, w, d, t, l⟩ := a
  exact ⟨v, hs, s _ _ e, w.keep (.same s), rs s d, rs s t, l.keep (.same s)⟩
section
variable {h : Hd} {v : V} {D T : Addr}
theorem ok1 : valV (kvO h v D T) (Sum.inr "thing") = some (.int (h.thing : Int)) := by
  unfold valV kvO
  simp [List.find?]
theorem ok2 : valV (kvO h v D T) (Sum.inr "place") = some (.int h.place) := by
  have n1 : ¬ ((Sum.inr ("thing" : Str) : Key) = Sum.inr ("place" : Str)) := by decide +kernel
  unfold valV kvO
  simp [List.find?, n1]
theorem ok3 : valV (kvO h v D T) (Sum.inr "wish") = some v := by
  have n1 : ¬ ((Sum.inr ("thing" : Str) : Key) = Sum.inr ("wish" : Str)) := by decide +kernel
  have n2 : ¬ ((Sum.inr ("place" : Str) : Key) = Sum.inr ("wish" : Str)) := by decide +kernel
  unfold valV kvO
  simp only [List.find?, n1, n2, decide_false, decide_true]
  rfl
theorem ok4 : valV (kvO h v D T) (Sum.inr "rules") = some (.ref D) := by
  have n1 : ¬ ((Sum.inr ("thing" : Str) : Key) = Sum.inr ("rules" : Str)) := by decide +kernel
  have n2 : ¬ ((Sum.inr ("place" : Str) : Key) = Sum.inr ("rules" : Str)) := by decide +kernel
  have n3 : ¬ ((Sum.inr ("wish" : Str) : Key) = Sum.inr ("rules" : Str)) := by decide +kernel
  unfold valV kvO
  simp only [List.find?, n1, n2, n3, decide_false, decide_true]
  rfl
theorem ok5 : valV (kvO h v D T) (Sum.inr "counts") = some (.ref T) := by
  have n1 : ¬ ((Sum.inr ("thing" : Str) : Key) = Sum.inr ("counts" : Str)) := by decide +kernel
  have n2 : ¬ ((Sum.inr ("place" : Str) : Key) = Sum.inr ("counts" : Str)) := by decide +kernel
  have n3 : ¬ ((Sum.inr ("wish" : Str) : Key) = Sum.inr ("counts" : Str)) := by decide +kernel
  have n4 : ¬ ((Sum.inr ("rules" : Str) : Key) = Sum.inr ("counts" : Str)) := by decide +kernel
  unfold valV kvO
  simp only [List.find?, n1, n2, n3, n4, decide_false, decide_true]
  rfl
end
def atB (s : Sd) (p : Int) : Bool := if s.2.1 then decide (s.2.2 ≤ p) else decide (p ≤ s.2.2)
theorem look_shR {rows : List (Int × Rl × Int)} (nd : (rows.map (·.1)).Nodup) (n : Int) : look (shR rows) n = (look rows n).bind fun z => if shrd z.1 = true then some z else none := by
  induction rows with
  | nil => rfl
  | cons r rows ih =>
    have nd2 := List.nodup_cons.mp (show (r.1 :: rows.map (·.1)).Nodup from nd)
    have ih := ih nd2.2
    rw [look_cons]
    unfold shR at ih ⊢
    by_cases hs : shrd r.2.1 = true
    · rw [List.filter_cons_of_pos (by exact hs), look_cons]
      by_cases hn : r.1 = n
      · rw [if_pos hn, if_pos hn]
        simp [hs]
      · rw [if_neg hn, if_neg hn, ih]
    · rw [List.filter_cons_of_neg (by exact hs), ih]
      by_cases hn : r.1 = n
      · rw [if_pos hn]
        have : look rows n = none := by
          cases hl : look rows n with
          | none => rfl
          | some z =>
            unfold look at hl
            cases hf : rows.find? fun r => decide (r.1 = n) with
            | none =>
              rw [hf] at hl
              cases hl
            | some y =>
              have h1 := List.mem_of_find?_eq_some hf
              have h2 := List.find?_some hf
              have h3 : y.1 = n := of_decide_eq_true h2
              exact absurd (List.mem_map_of_mem (f := fun r : Int × Rl × Int => r.1) h1) (by rw [h3, ← hn]; exact nd2.1)
        rw [this]
        simp [hs]
      · rw [if_neg hn]
def spAt : Sp := fun vs H Q _ => ∃ (p : Addr) (sd : Sd) (pl : Int), vs = [.ref p, .int pl] ∧ SideAt H p sd ∧ Q (.bl (atB sd pl)) H
def spSideO : Sp := fun vs H Q _ => ∃ (O D T : Addr) (h : Hd) (n : Int) (z : Rl × Int), vs = [.ref O, .int n] ∧ OwnAt H O D T h ∧ look h.rows n = some z ∧ ∀ H' g p, Same H H' → H' g = some (.tup [.ref p, .int (othT z.1 h.thing : Nat)]) → SideAt H' p (ownS z.1 h.thing) → Q (.ref g) H'
def spToward : Sp := fun vs H Q _ => ∃ (O D T : Addr) (h : Hd), vs = [.ref O] ∧ OwnAt H O D T h ∧ (∀ w, h.wish = some w → h.thing < w.2.length) ∧ Q (.int (if h.goal = h.place then h.place else h.there)) H
section
variable {P : Program} {w : World} {K : PySem.W.Frag} {mg : Str → Option Value} {base : Heap}
end

/-! ### the law's record: leaves, what is let -/
def MineQ (h : Hd) (q : Rl) : Prop := q.1.1 = h.thing ∨ q.2.1 = h.thing
def letQ (h : Hd) (r : Int × Rl × Int) (p : Int) : Bool := if shrd r.2.1 = true then (leaveB h.thing r.2.1 r.2.2 || atB (ownS r.2.1 h.thing) p) else (atB r.2.1.1 p || atB r.2.1.2 p)
def Hd.letP (h : Hd) (p : Int) : Bool := h.rows.all fun r => letQ h r p
def spHas : Sp := fun vs H Q _ => ∃ (O D T : Addr) (h : Hd) (n : Int) (q : Rl) (c : Int), vs = [.ref O, .int n] ∧ OwnAt H O D T h ∧ (h.rows.map (·.1)).Nodup ∧ look h.rows n = some (q, c) ∧ shrd q = true ∧ MineQ h q ∧ Q (.bl (leaveB h.thing q c)) H
def spLetO : Sp := fun vs H Q _ => ∃ (O D T : Addr) (h : Hd) (p : Int), vs = [.ref O, .int p] ∧ OwnAt H O D T h ∧ D ≠ T ∧ D ≠ O ∧ (∃ kvs, H D = some (.dK kvs)) ∧ (h.rows.map (·.1)).Nodup ∧ h.rows.length ≤ 40 ∧ (∀ r ∈ h.rows, shrd r.2.1 = true → MineQ h r.2.1) ∧ ∀ H', Same H H' → Q (.bl (h.letP p)) H'
theorem has_eq {h : Hd} {q : Rl} {c : Int} (s : shrd q = true) (m : MineQ h q) : decide ((if c % 2 = 0 then q.1 else q.2).1 = h.thing) = leaveB h.thing q c := by
  have ne : q.1.1 ≠ q.2.1 := of_decide_eq_true s
  unfold leaveB
  by_cases h0 : c % 2 = 0
  · rw [if_pos h0, decide_eq_true h0]
    simp
  · rw [if_neg h0, decide_eq_false h0]
    rcases m with m | m
    · rw [decide_eq_true m, decide_eq_false (fun z => ne (m.trans z.symm))]
      rfl
    · rw [decide_eq_true m, decide_eq_false (fun z => ne (z.trans m.symm))]
      rfl
section
variable {P : Program} {w : World} {K : PySem.W.Frag} {mg : Str → Option Value} {base : Heap}
end

theorem Held.at' {H : Hp} : ∀ {hs : List (Int × Addr)} {rows : List (Int × Rl × Int)} {i : Nat} {z : Int × Addr}, Held H hs rows → hs[i]? = some z → ∃ r, rows[i]? = some r ∧ z.1 = r.1 ∧ RuleAt H z.2 r.2.1
  | [], [], _, _, _, h => by cases h
  | z :: hs, r :: rows, 0, _, ⟨a, b, _⟩, h => ⟨r, rfl, by cases h; exact ⟨a, b⟩⟩
  | z :: hs, r :: rows, i + 1, _, ⟨_, _, c⟩, h => Held.at' (i := i) c h
  | [], _ :: _, _, _, h, _ => h.elim
  | _ :: _, [], _, _, h, _ => h.elim
theorem look_nd {rows : List (Int × Rl × Int)} (nd : (rows.map (·.1)).Nodup) {i : Nat} {r : Int × Rl × Int} (e : rows[i]? = some r) : look rows r.1 = some r.2 := by
  induction rows generalizing i with
  | nil => cases e
  | cons x rows ih =>
    have nd2 := List.nodup_cons.mp (show (x.1 :: rows.map (·.1)).Nodup from nd)
    rw [look_cons]
    match i, e with
    | 0, e =>
      cases e
      rw [if_pos rfl]
    | i + 1, e =>
      have e' : rows[i]? = some r := e
      rw [if_neg (fun z => nd2.1 (by rw [z]; exact List.mem_map_of_mem (f := fun r : Int × Rl × Int => r.1) (List.mem_of_getElem? e')))]
      exact ih nd2.2 e'
section
variable {P : Program} {w : World} {K : PySem.W.Frag} {mg : Str → Option Value} {base : Heap}
end

theorem outB_at (s : Sd) (p : Int) : outB s p = !atB s p := by
  obtain ⟨n, b, c⟩ := s
  unfold outB outS atB
  cases b with
  | true =>
    show decide (p ≤ if c - 1 < p then c - 1 else p) = !decide (c ≤ p)
    by_cases h : c ≤ p
    · rw [if_pos (by omega), decide_eq_true h, decide_eq_false (by omega)]
      rfl
    · by_cases h2 : c - 1 < p
      · omega
      · rw [if_neg h2, decide_eq_false h, decide_eq_true (Int.le_refl p)]
        rfl
  | false =>
    show decide ((if c + 1 > p then c + 1 else p) ≤ p) = !decide (p ≤ c)
    by_cases h : p ≤ c
    · rw [if_pos (by omega), decide_eq_true h, decide_eq_false (by omega)]
      rfl
    · rw [if_neg (by omega), decide_eq_false h, decide_eq_true (Int.le_refl p)]
      rfl
def Hd.spot (h : Hd) : Int := if h.goal = h.place then h.place else h.there
def Hd.lkO (h : Hd) (n : Int) : Bool := (decide (h.spot ≠ h.place) && h.ou n) && !h.lv n
def LkO (h : Hd) (ys : List Int) : Prop := ∃ zs : List Int, zs.Perm ((shR h.rows).map (·.1)) ∧ zs.Pairwise (· ≤ ·) ∧ ys = zs.filter h.lkO
theorem there_ne {h : Hd} (g : h.goal ≠ h.place) : h.there ≠ h.place := by
  unfold Hd.there
  split <;> omega
theorem LkO.eq {h : Hd} (nd : (h.rows.map (·.1)).Nodup) {ys ys' : List Int} (a : LkL h ys) (b : LkO h ys') : ys = ys' := by
  obtain ⟨zs, p, s, rfl⟩ := b
  rcases a with ⟨g, rfl⟩ | ⟨g, ss, ⟨ws, pw, sw, rfl⟩, rfl⟩
  · refine (List.filter_eq_nil_iff.mpr fun n _ => ?_).symm
    unfold Hd.lkO Hd.spot
    rw [if_pos g]
    simp
  · have e : ws.filter h.shares = zs := by
      refine sorted_uniq ?_ (sw.filter _) s
      refine ((pw.filter h.shares).trans ?_).trans p.symm
      unfold shR
      have : ((h.rows.map (·.1)).filter h.shares) = (h.rows.filter fun r => shrd r.2.1).map (·.1) := by
        rw [List.filter_map]
        congr 1
        refine List.filter_congr fun r hr => ?_
        obtain ⟨i, er⟩ := List.mem_iff_getElem?.mp hr
        show h.shares r.1 = shrd r.2.1
        unfold Hd.shares
        rw [look_nd nd er]
      rw [this]
    rw [e, List.filter_filter]
    refine List.filter_congr fun n _ => ?_
    unfold Hd.lkO Hd.spot
    rw [if_neg g, decide_eq_true (there_ne g), Bool.true_and]
def spLkO : Sp := fun vs H Q _ => ∃ (O D T : Addr) (h : Hd), vs = [.ref O] ∧ OwnAt H O D T h ∧ (h.rows.map (·.1)).Nodup ∧ h.rows.length ≤ 40 ∧ (∀ r ∈ h.rows, shrd r.2.1 = true → MineQ h r.2.1) ∧ (∀ w, h.wish = some w → h.thing < w.2.length) ∧ ∀ H' g ys, Same H H' → H' g = some (.tup (ys.map V.int)) → LkO h ys → Q (.ref g) H'
section
variable {P : Program} {w : World} {K : PySem.W.Frag} {mg : Str → Option Value} {base : Heap}
end

/-- the record, not locked -/
def OwnU (H : Hp) (O D T : Addr) (h : Hd) : Prop := ∃ v hs, H O = some (.dK (kvO h v D T)) ∧ WV H v h.wish ∧ H D = some (.dK (kvH hs)) ∧ H T = some (.dK (kvT (shR h.rows))) ∧ Held H hs h.rows ∧ D ≠ T ∧ O ≠ D ∧ O ≠ T
theorem OwnU.own {H : Hp} {O D T : Addr} {h : Hd} (a : OwnU H O D T h) : OwnAt H O D T h := by
  obtain ⟨v, hs, e, w, d, t, l, _⟩ := a
  exact ⟨v, hs, e, w, .inl d, .inl t, l⟩
theorem OwnU.same {H H' : Hp} {O D T : Addr} {h : Hd} (a : OwnU H O D T h) (s : Same H H') : OwnU H' O D T h := by
  obtain ⟨v, hs, e, w, d, t, l, n⟩ := a
  exact ⟨v, hs, s _ _ e, w.keep (.same s), s _ _ d, s _ _ t, l.keep (.same s), n⟩
theorem Held.snoc {H : Hp} {r : Int × Rl × Int} {a : Addr} (hr : RuleAt H a r.2.1) : ∀ {hs : List (Int × Addr)} {rows : List (Int × Rl × Int)}, Held H hs rows → Held H (hs ++ [(r.1, a)]) (rows ++ [r])
  | [], [], _ => ⟨rfl, hr, trivial⟩
  | _ :: _, _ :: _, ⟨x, y, c⟩ => ⟨x, y, Held.snoc hr c⟩
  | [], _ :: _, h => h.elim
  | _ :: _, [], h => h.elim
def spPut : Sp := fun vs H Q _ => ∃ (O D T r : Addr) (h : Hd) (n c : Int) (rl : Rl), vs = [.ref O, .int n, .ref r, .int c] ∧ OwnU H O D T h ∧ RuleAt H r rl ∧ n ∉ h.rows.map (·.1) ∧ h.rows.length ≤ 40 ∧
  ∀ H', (∀ b o, b ≠ D → b ≠ T → H b = some o → H' b = some o) → OwnU H' O D T { h with rows := h.rows ++ [(n, rl, c)] } → Q .non H'
section
variable {P : Program} {w : World} {K : PySem.W.Frag} {mg : Str → Option Value} {base : Heap}
end
end K64

set_option Elab.async false
set_option linter.all false
set_option maxRecDepth 100000
namespace K64
open PySem PySem.Spec PyProof.Rows L2 NB

/-! ### rules put and dropped -/
def dropR (rows : List (Int × Rl × Int)) (n : Int) : List (Int × Rl × Int) := rows.filter fun r => decide (r.1 ≠ n)
theorem dropR_keys (rows : List (Int × Rl × Int)) (n : Int) : (dropR rows n).map (·.1) = (rows.map (·.1)).filter fun m => decide (m ≠ n) := by
  unfold dropR
  rw [List.filter_map]
  rfl
theorem drop_kvT (rows : List (Int × Rl × Int)) (n : Int) : dropK (kvT rows) (Sum.inl n) = kvT (dropR rows n) := by
  unfold dropK kvT dropR
  rw [List.filter_map]
  congr 1
  refine List.filter_congr fun r _ => ?_
  exact decide_eq_decide.mpr (not_congr ⟨fun h => Sum.inl.inj h, fun h => congrArg Sum.inl h⟩)
theorem drop_kvH (hs : List (Int × Addr)) (n : Int) : dropK (kvH hs) (Sum.inl n) = kvH (hs.filter fun z => decide (z.1 ≠ n)) := by
  unfold dropK kvH
  rw [List.filter_map]
  congr 1
  refine List.filter_congr fun r _ => ?_
  exact decide_eq_decide.mpr (not_congr ⟨fun h => Sum.inl.inj h, fun h => congrArg Sum.inl h⟩)
theorem Held.drop {H : Hp} (n : Int) : ∀ {hs : List (Int × Addr)} {rows : List (Int × Rl × Int)}, Held H hs rows → Held H (hs.filter fun z => decide (z.1 ≠ n)) (dropR rows n)
  | [], [], _ => trivial
  | z :: hs, r :: rows, ⟨e, g, c⟩ => by
    have ih := Held.drop n c
    unfold dropR at ih ⊢
    by_cases hn : z.1 = n
    · rw [List.filter_cons_of_neg (by rw [decide_eq_true_eq]; exact fun q => q hn), List.filter_cons_of_neg (by rw [decide_eq_true_eq, ← e]; exact fun q => q hn)]
      exact ih
    · rw [List.filter_cons_of_pos (p := fun z : Int × Addr => decide (z.1 ≠ n)) (decide_eq_true hn), List.filter_cons_of_pos (p := fun r : Int × Rl × Int => decide (r.1 ≠ n)) (decide_eq_true (by rw [← e]; exact hn))]
      exact ⟨e, g, ih⟩
  | [], _ :: _, h => h.elim
  | _ :: _, [], h => h.elim
theorem valK_none {rows : List (Int × Rl × Int)} {n : Int} (h : n ∉ rows.map (·.1)) : look rows n = none := by
  cases e : look rows n with
  | none => rfl
  | some z =>
    refine absurd ?_ h
    unfold look at e
    cases hf : rows.find? fun r => decide (r.1 = n) with
    | none => rw [hf] at e; cases e
    | some y =>
      have h2 := List.find?_some hf
      have h3 : y.1 = n := of_decide_eq_true h2
      rw [← h3]
      exact List.mem_map_of_mem (f := fun r : Int × Rl × Int => r.1) (List.mem_of_find?_eq_some hf)
theorem look_key {rows : List (Int × Rl × Int)} {n : Int} (h : n ∈ rows.map (·.1)) : ∃ z, look rows n = some z := by
  obtain ⟨q, c, e⟩ := look_of h
  exact ⟨_, e⟩
theorem Held.snocH {H : Hp} {r : Int × Rl × Int} {a : Addr} (hr : RuleAt H a r.2.1) : ∀ {hs : List (Int × Addr)} {rows : List (Int × Rl × Int)}, Held H hs rows → Held H (hs ++ [(r.1, a)]) (rows ++ [r])
  | [], [], _ => ⟨rfl, hr, trivial⟩
  | _ :: _, _ :: _, ⟨x, y, c⟩ => ⟨x, y, Held.snocH hr c⟩
  | [], _ :: _, h => h.elim
  | _ :: _, [], h => h.elim
theorem putH_new {H : Hp} {hs : List (Int × Addr)} {rows : List (Int × Rl × Int)} (l : Held H hs rows) {n : Int} (hn : n ∉ rows.map (·.1)) (r : Addr) : putK (kvH hs) (Sum.inl n) (.ref r) = kvH (hs ++ [(n, r)]) := by
  rw [putK_new (fun kv hkv => ?_)]
  · unfold kvH
    rw [List.map_append]
    rfl
  · unfold kvH at hkv
    obtain ⟨z, hz, rfl⟩ := List.mem_map.mp hkv
    intro q0
    refine hn ?_
    rw [← Sum.inl.inj q0, ← l.keys]
    exact List.mem_map_of_mem hz
theorem putT_new {rows : List (Int × Rl × Int)} {n : Int} (hn : n ∉ rows.map (·.1)) (q : Rl) (c : Int) : putK (kvT rows) (Sum.inl n) (.int c) = kvT (rows ++ [(n, q, c)]) := by
  rw [putK_new (fun kv hkv => ?_)]
  · unfold kvT
    rw [List.map_append]
    rfl
  · unfold kvT at hkv
    obtain ⟨z, hz, rfl⟩ := List.mem_map.mp hkv
    intro q0
    refine hn ?_
    rw [← Sum.inl.inj q0]
    exact List.mem_map_of_mem hz
def spHPut (C : Addr) : Sp := fun vs H Q _ => ∃ (x D T r : Addr) (h : Hd) (n c : Int) (rl : Rl), vs = [.ref x, .int n, .ref r, .int c] ∧ HandAt C H x D T h ∧ D ≠ T ∧ (∃ kvs, H D = some (.dK kvs)) ∧ RuleAt H r rl ∧ n ∉ h.rows.map (·.1) ∧ h.rows.length ≤ 60 ∧
  ∀ H', (∀ b o, b ≠ D → b ≠ T → H b = some o → H' b = some o) → HandAt C H' x D T { h with rows := h.rows ++ [(n, rl, c)] } → (∃ kvs, H' D = some (.dK kvs)) → Q .non H'
def spHDrop (C : Addr) : Sp := fun vs H Q _ => ∃ (x D T : Addr) (h : Hd) (n : Int), vs = [.ref x, .int n] ∧ HandAt C H x D T h ∧ D ≠ T ∧ (∃ kvs, H D = some (.dK kvs)) ∧ n ∈ h.rows.map (·.1) ∧
  ∀ H', (∀ b o, b ≠ D → b ≠ T → H b = some o → H' b = some o) → HandAt C H' x D T { h with rows := dropR h.rows n } → (∃ kvs, H' D = some (.dK kvs)) → Q .non H'
section
variable {P : Program} {w : World} {K : PySem.W.Frag} {mg : Str → Option Value} {base : Heap}
abbrev a_Hand_put : Stmt := inClass (topS 18) 14
abbrev n_Hand_put : List Str := ["self", "number", "rule", "count"]
theorem sc_Hand_put : FnScope n_Hand_put ["self", "number", "rule", "count"] (defScope a_Hand_put) := ⟨rfl, rfl, rfl, by decide +kernel, rfl, by decide +kernel, by decide +kernel⟩
set_option maxHeartbeats 8000000 in
theorem ok_Hand_put {f fWh : Addr} {fd fdWh : FuncData} {k : Nat} {C : Addr} (F : Fun K "put" "Hand.put" a_Hand_put f fd) (Wh : Kn P w K mg base 1 "is_whole" ["thing"] (spLook wholeD) fWh fdWh) (X : HandTxt K C)  : FnOk P w K mg base CX0 (k + 3) f fd ["self", "number", "rule", "count"] (spHPut C) := by
  refine F.ok sc_Hand_put (fun vs H Q E h => ?_) (fun cdv A outer s H vs Q E hr h => ?_)
  · obtain ⟨x, D, T, r, h, n, c, rl, rfl, _⟩ := h
    rfl
  · obtain ⟨x, D, T, r, h, n, c, rl, rfl, ha, hDT, hD, rA, hn, l40, q⟩ := h
    refine ⟨_, (pss_cons (ps_if (PW.pt (pw_or (pt_not (pt_val (pe_kn Wh hr (by omega) (pa_cons (pv 1) pa_nil)))) (pw_or1 (pt_cmp (pc_din (hu_of hr) (pv 1) (pe_fld (pv 0) rfl)))))) (pss_one (ps_never)) pss_nil)
      (pss_cons (ps_asg (pv 2) (pg_sub (pe_fld (pv 0) rfl) (pv 1) (set_dict (hu_of hr))))
      (pss_one (ps_asg (pv 3) (pg_sub (pe_fld (pv 0) rfl) (pv 1) (set_dict (hu_of hr))))))), ?_⟩
    obtain ⟨dx, v, hs, e, w1, d, t, l⟩ := ha
    have e' : H x = some (.ins C dx [("thing", .int (h.thing : Int)), ("place", .int h.place), ("wish", v), ("held", .ref D), ("tally", .ref T)]) := e
    have d0 : H D = some (.dK (kvH hs)) := by
      obtain ⟨kvs, hk⟩ := hD
      rcases d with d | ⟨od, d⟩
      · exact d
      · rw [hk] at d
        cases d
    refine ⟨_, rfl, 0, .int n, _, rfl, .int n, fun H1 s1 => ⟨true, rfl, iteF ?_⟩⟩
    have e1 := s1 _ _ e'
    have d1 := s1 _ _ d0
    have t1 := s1 _ _ t
    have l1 := l.keep (.same s1)
    have r1 := rA.keep (.same s1)
    have w2 := w1.keep (.same s1)
    have vn : valV (kvH hs) (Sum.inl n) = none := by
      rcases valH n l with ⟨_, a2⟩ | ⟨q', c', a, a1, _⟩
      · exact a2
      · rw [valK_none hn] at a1
        cases a1
    have kl : hs.length = h.rows.length := by
      have := congrArg List.length l.keys
      rw [List.length_map, List.length_map] at this
      exact this
    refine ⟨_, rfl, .ref x, rfl, x, C, dx, _, _, rfl, e1, X.cl, X.n4, lk4, D, valV (kvH hs) (.inl n), rfl, DGr (k := .inl n) (.inl d1), _, rfl, ?_⟩
    rw [vn]
    refine iteF ⟨_, rfl, .ref x, rfl, x, C, dx, _, _, rfl, e1, X.cl, X.n4, lk4, _, rfl, D, _, rfl, DPut.k (k := .inl n) d1 (by unfold kvH; rw [List.length_map]; exact small1000 (by omega)), ?_⟩
    rw [putH_new l1 hn]
    have nxD : x ≠ D := fun z => by rw [z, d0] at e'; cases e'
    have nxT : x ≠ T := fun z => by rw [z, t] at e'; cases e'
    have tk1 : TupK H1 (upd H1 D (.dK (kvH (hs ++ [(n, r)])))) := fun b xs eb => (upd_ne (fun z => by rw [z, d1] at eb; cases eb)).trans eb
    have e2 : (upd H1 D (.dK (kvH (hs ++ [(n, r)])))) x = some (.ins C dx [("thing", .int (h.thing : Int)), ("place", .int h.place), ("wish", v), ("held", .ref D), ("tally", .ref T)]) := (upd_ne nxD).trans e1
    have t2 : (upd H1 D (.dK (kvH (hs ++ [(n, r)])))) T = some (.dK (kvT h.rows)) := (upd_ne hDT.symm).trans t1
    have d2 : (upd H1 D (.dK (kvH (hs ++ [(n, r)])))) D = some (.dK (kvH (hs ++ [(n, r)]))) := upd_same
    have k2 : ∀ b o, b ≠ D → H1 b = some o → (upd H1 D (.dK (kvH (hs ++ [(n, r)])))) b = some o := fun b o nb eb => (upd_ne nb).trans eb
    generalize upd H1 D (.dK (kvH (hs ++ [(n, r)]))) = H2 at tk1 e2 t2 d2 k2 ⊢
    refine ⟨_, rfl, .ref x, rfl, x, C, dx, _, _, rfl, e2, X.cl, X.n5, lk5, _, rfl, T, _, rfl, DPut.k (k := .inl n) t2 (by unfold kvT; rw [List.length_map]; exact small1000 (by omega)), ?_⟩
    rw [putT_new hn rl c]
    have tk2 : TupK H2 (upd H2 T (.dK (kvT (h.rows ++ [(n, rl, c)])))) := fun b xs eb => (upd_ne (fun z => by rw [z, t2] at eb; cases eb)).trans eb
    exact q _ (fun b o n1 n2 eb => (upd_ne n2).trans (k2 b o n1 (s1 _ _ eb))) ⟨dx, v, hs ++ [(n, r)], (upd_ne nxT).trans e2, (w2.tk tk1).tk tk2, .inl ((upd_ne hDT).trans d2), upd_same, Held.snocH (r := (n, rl, c)) ((r1.tk tk1).tk tk2) ((l1.tk tk1).tk tk2)⟩ ⟨_, (upd_ne hDT).trans d2⟩
abbrev a_Hand_drop : Stmt := inClass (topS 18) 15
abbrev n_Hand_drop : List Str := ["self", "number"]
theorem sc_Hand_drop : FnScope n_Hand_drop ["self", "number"] (defScope a_Hand_drop) := ⟨rfl, rfl, rfl, by decide +kernel, rfl, by decide +kernel, by decide +kernel⟩
set_option maxHeartbeats 8000000 in
theorem ok_Hand_drop {f fWh : Addr} {fd fdWh : FuncData} {k : Nat} {C : Addr} (F : Fun K "drop" "Hand.drop" a_Hand_drop f fd) (Wh : Kn P w K mg base 1 "is_whole" ["thing"] (spLook wholeD) fWh fdWh) (X : HandTxt K C)  : FnOk P w K mg base CX0 (k + 3) f fd ["self", "number"] (spHDrop C) := by
  refine F.ok sc_Hand_drop (fun vs H Q E h => ?_) (fun cdv A outer s H vs Q E hr h => ?_)
  · obtain ⟨x, D, T, h, n, rfl, _⟩ := h
    rfl
  · obtain ⟨x, D, T, h, n, rfl, ha, hDT, hD, hn, q⟩ := h
    refine ⟨_, (pss_cons (ps_if (PW.pt (pw_or (pt_not (pt_val (pe_kn Wh hr (by omega) (pa_cons (pv 1) pa_nil)))) (pw_or1 (pt_cmp (pc_dnotin (hu_of hr) (pv 1) (pe_fld (pv 0) rfl)))))) (pss_one (ps_never)) pss_nil)
      (pss_cons (ps_ddel (pe_fld (pv 0) rfl) (pv 1))
      (pss_one (ps_ddel (pe_fld (pv 0) rfl) (pv 1))))), ?_⟩
    obtain ⟨dx, v, hs, e, w1, d, t, l⟩ := ha
    have e' : H x = some (.ins C dx [("thing", .int (h.thing : Int)), ("place", .int h.place), ("wish", v), ("held", .ref D), ("tally", .ref T)]) := e
    have d0 : H D = some (.dK (kvH hs)) := by
      obtain ⟨kvs, hk⟩ := hD
      rcases d with d | ⟨od, d⟩
      · exact d
      · rw [hk] at d
        cases d
    refine ⟨_, rfl, 0, .int n, _, rfl, .int n, fun H1 s1 => ⟨true, rfl, iteF ?_⟩⟩
    have e1 := s1 _ _ e'
    have d1 := s1 _ _ d0
    have t1 := s1 _ _ t
    have l1 := l.keep (.same s1)
    have w2 := w1.keep (.same s1)
    obtain ⟨z, lz⟩ := look_key hn
    have vn : ∃ a, valV (kvH hs) (Sum.inl n) = some (.ref a) := by
      rcases valH n l with ⟨a1, _⟩ | ⟨q', c', a, _, a2, _⟩
      · rw [lz] at a1
        cases a1
      · exact ⟨a, a2⟩
    obtain ⟨a, vn⟩ := vn
    refine ⟨_, rfl, .ref x, rfl, x, C, dx, _, _, rfl, e1, X.cl, X.n4, lk4, D, valV (kvH hs) (.inl n), rfl, DGr (k := .inl n) (.inl d1), _, rfl, ?_⟩
    rw [vn]
    refine iteF ⟨.ref x, rfl, x, C, dx, _, _, rfl, e1, X.cl, X.n4, lk4, _, rfl, D, kvH hs, .inl n, rfl, d1, rfl, by rw [vn]; rfl, ?_⟩
    rw [drop_kvH]
    have nxD : x ≠ D := fun z => by rw [z, d0] at e'; cases e'
    have nxT : x ≠ T := fun z => by rw [z, t] at e'; cases e'
    have tk1 : TupK H1 (upd H1 D (.dK (kvH (hs.filter fun z => decide (z.1 ≠ n))))) := fun b xs eb => (upd_ne (fun z => by rw [z, d1] at eb; cases eb)).trans eb
    have e2 : (upd H1 D (.dK (kvH (hs.filter fun z => decide (z.1 ≠ n))))) x = some (.ins C dx [("thing", .int (h.thing : Int)), ("place", .int h.place), ("wish", v), ("held", .ref D), ("tally", .ref T)]) := (upd_ne nxD).trans e1
    have t2 : (upd H1 D (.dK (kvH (hs.filter fun z => decide (z.1 ≠ n))))) T = some (.dK (kvT h.rows)) := (upd_ne hDT.symm).trans t1
    have d2 : (upd H1 D (.dK (kvH (hs.filter fun z => decide (z.1 ≠ n))))) D = some (.dK (kvH (hs.filter fun z => decide (z.1 ≠ n)))) := upd_same
    have k2 : ∀ b o, b ≠ D → H1 b = some o → (upd H1 D (.dK (kvH (hs.filter fun z => decide (z.1 ≠ n))))) b = some o := fun b o nb eb => (upd_ne nb).trans eb
    generalize upd H1 D (.dK (kvH (hs.filter fun z => decide (z.1 ≠ n)))) = H2 at tk1 e2 t2 d2 k2 ⊢
    refine ⟨.ref x, rfl, x, C, dx, _, _, rfl, e2, X.cl, X.n5, lk5, _, rfl, T, kvT h.rows, .inl n, rfl, t2, rfl, by rw [valT, lz]; rfl, ?_⟩
    rw [drop_kvT]
    have tk2 : TupK H2 (upd H2 T (.dK (kvT (dropR h.rows n)))) := fun b xs eb => (upd_ne (fun z => by rw [z, t2] at eb; cases eb)).trans eb
    exact q _ (fun b o n1 n2 eb => (upd_ne n2).trans (k2 b o n1 (s1 _ _ eb))) ⟨dx, v, hs.filter fun z => decide (z.1 ≠ n), (upd_ne nxT).trans e2, (w2.tk tk1).tk tk2, .inl ((upd_ne hDT).trans d2), upd_same, ((l1.tk tk1).tk tk2).drop n⟩ ⟨_, (upd_ne hDT).trans d2⟩
end
end K64

set_option Elab.async false
set_option linter.all false
set_option maxRecDepth 100000
namespace K64
open PySem PySem.Spec PyProof.Rows L2 NB

/-! ### how far a stride goes, by the places next to each side's -/
theorem outS_in (s : Sd) {lo hi x : Int} (h1 : lo ≤ x) (h2 : x ≤ hi) : atB s x = false ↔ (outS s lo hi).1 ≤ x ∧ x ≤ (outS s lo hi).2 := by
  unfold atB outS
  cases s.2.1 with
  | true =>
    rw [if_pos rfl, if_pos rfl, decide_eq_false_iff_not]
    dsimp only
    split <;> omega
  | false =>
    rw [if_neg (by decide), if_neg (by decide), decide_eq_false_iff_not]
    dsimp only
    split <;> omega
theorem outS_le (s : Sd) (lo hi : Int) : lo ≤ (outS s lo hi).1 ∧ (outS s lo hi).2 ≤ hi := by
  unfold outS
  split
  · dsimp only
    split <;> omega
  · dsimp only
    split <;> omega
theorem outS_end (s : Sd) (lo hi : Int) : ((outS s lo hi).1 = lo ∨ (outS s lo hi).1 = s.2.2 + 1) ∧ ((outS s lo hi).2 = hi ∨ (outS s lo hi).2 = s.2.2 - 1) := by
  unfold outS
  split
  · dsimp only
    split
    · exact ⟨.inl rfl, .inr rfl⟩
    · exact ⟨.inl rfl, .inl rfl⟩
  · dsimp only
    split
    · exact ⟨.inr rfl, .inl rfl⟩
    · exact ⟨.inl rfl, .inl rfl⟩
theorem ownS_or (q : Rl) (i : Nat) : ownS q i = q.1 ∨ ownS q i = q.2 := by
  unfold ownS
  split
  · exact .inl rfl
  · exact .inr rfl
theorem shut_in {h : Hd} {lo hi x : Int} {r : Int × Rl × Int} (e : look h.rows r.1 = some r.2) (h1 : lo ≤ x) (h2 : x ≤ hi) : letQ h r x = false ↔ (h.shut r.1 lo hi).1 ≤ x ∧ x ≤ (h.shut r.1 lo hi).2 := by
  unfold letQ
  cases hs : shrd r.2.1 with
  | false =>
    rw [shut1 e hs, if_neg (by decide), Bool.or_eq_false_iff, outS_in r.2.1.1 h1 h2]
    constructor
    · rintro ⟨⟨a, b⟩, c⟩
      exact (outS_in r.2.1.2 a b).mp c
    · intro c
      have w := outS_le r.2.1.2 (outS r.2.1.1 lo hi).1 (outS r.2.1.1 lo hi).2
      have ab : (outS r.2.1.1 lo hi).1 ≤ x ∧ x ≤ (outS r.2.1.1 lo hi).2 := ⟨by omega, by omega⟩
      exact ⟨ab, (outS_in r.2.1.2 ab.1 ab.2).mpr c⟩
  | true =>
    rw [if_pos rfl]
    cases hl : leaveB h.thing r.2.1 r.2.2 with
    | true =>
      rw [shut2 e hs hl]
      constructor
      · intro c
        cases c
      · rintro ⟨a, b⟩
        dsimp only at a b
        omega
    | false =>
      rw [shut3 e hs hl, Bool.false_or]
      exact outS_in _ h1 h2
theorem shut_le {h : Hd} {lo hi : Int} {r : Int × Rl × Int} (e : look h.rows r.1 = some r.2) (g : (h.shut r.1 lo hi).1 ≤ (h.shut r.1 lo hi).2) : lo ≤ (h.shut r.1 lo hi).1 ∧ (h.shut r.1 lo hi).2 ≤ hi := by
  cases hs : shrd r.2.1 with
  | false =>
    rw [shut1 e hs]
    have a := outS_le r.2.1.1 lo hi
    have b := outS_le r.2.1.2 (outS r.2.1.1 lo hi).1 (outS r.2.1.1 lo hi).2
    omega
  | true =>
    cases hl : leaveB h.thing r.2.1 r.2.2 with
    | true =>
      rw [shut2 e hs hl] at g
      dsimp only at g
      omega
    | false =>
      rw [shut3 e hs hl]
      exact outS_le _ _ _
def nearS (q : Rl) : List Int := [q.1.2.2 - 1, q.1.2.2 + 1, q.2.2.2 - 1, q.2.2.2 + 1]
theorem shut_end {h : Hd} {lo hi : Int} {r : Int × Rl × Int} (e : look h.rows r.1 = some r.2) (g : (h.shut r.1 lo hi).1 ≤ (h.shut r.1 lo hi).2) :
    ((h.shut r.1 lo hi).1 = lo ∨ (h.shut r.1 lo hi).1 ∈ nearS r.2.1) ∧ ((h.shut r.1 lo hi).2 = hi ∨ (h.shut r.1 lo hi).2 ∈ nearS r.2.1) := by
  have n1 : r.2.1.1.2.2 + 1 ∈ nearS r.2.1 := by simp [nearS]
  have n2 : r.2.1.1.2.2 - 1 ∈ nearS r.2.1 := by simp [nearS]
  have n3 : r.2.1.2.2.2 + 1 ∈ nearS r.2.1 := by simp [nearS]
  have n4 : r.2.1.2.2.2 - 1 ∈ nearS r.2.1 := by simp [nearS]
  cases hs : shrd r.2.1 with
  | false =>
    rw [shut1 e hs]
    obtain ⟨a1, a2⟩ := outS_end r.2.1.1 lo hi
    obtain ⟨b1, b2⟩ := outS_end r.2.1.2 (outS r.2.1.1 lo hi).1 (outS r.2.1.1 lo hi).2
    constructor
    · rcases b1 with b1 | b1
      · rw [b1]
        rcases a1 with a1 | a1
        · exact .inl a1
        · rw [a1]
          exact .inr n1
      · rw [b1]
        exact .inr n3
    · rcases b2 with b2 | b2
      · rw [b2]
        rcases a2 with a2 | a2
        · exact .inl a2
        · rw [a2]
          exact .inr n2
      · rw [b2]
        exact .inr n4
  | true =>
    cases hl : leaveB h.thing r.2.1 r.2.2 with
    | true =>
      rw [shut2 e hs hl] at g
      dsimp only at g
      omega
    | false =>
      rw [shut3 e hs hl]
      obtain ⟨a1, a2⟩ := outS_end (ownS r.2.1 h.thing) lo hi
      rcases ownS_or r.2.1 h.thing with o | o
      · rw [o] at a1 a2 ⊢
        exact ⟨a1.imp id (fun z => by rw [z]; exact n1), a2.imp id (fun z => by rw [z]; exact n2)⟩
      · rw [o] at a1 a2 ⊢
        exact ⟨a1.imp id (fun z => by rw [z]; exact n3), a2.imp id (fun z => by rw [z]; exact n4)⟩
theorem shuts_mem {h : Hd} {lo hi : Int} {z : Int × Int} : z ∈ h.shuts lo hi ↔ ∃ r ∈ h.rows, z = h.shut r.1 lo hi ∧ z.1 ≤ z.2 := by
  unfold Hd.shuts
  rw [List.mem_filter, List.mem_map]
  constructor
  · rintro ⟨⟨r, hr, e⟩, g⟩
    exact ⟨r, hr, e.symm, of_decide_eq_true g⟩
  · rintro ⟨r, hr, e, g⟩
    exact ⟨⟨r, hr, e.symm⟩, decide_eq_true g⟩
theorem not_let {h : Hd} {x : Int} : h.letP x = false ↔ ∃ r ∈ h.rows, letQ h r x = false := by
  unfold Hd.letP
  rw [List.all_eq_false]
  constructor
  · rintro ⟨r, hr, e⟩
    exact ⟨r, hr, Bool.eq_false_iff.mpr e⟩
  · rintro ⟨r, hr, e⟩
    exact ⟨r, hr, by rw [e]; decide⟩
def spotsF (h : Hd) (on : Int) : List Int := [h.place + on, h.goal] ++ h.rows.flatMap fun r => nearS r.2.1
theorem spots_near {h : Hd} {on x : Int} {r : Int × Rl × Int} (hr : r ∈ h.rows) (hx : x ∈ nearS r.2.1) : x ∈ spotsF h on := List.mem_append_right _ (List.mem_flatMap.mpr ⟨r, hr, hx⟩)
theorem spots_on {h : Hd} {on : Int} : h.place + on ∈ spotsF h on := by simp [spotsF]
theorem spots_goal {h : Hd} {on : Int} : h.goal ∈ spotsF h on := by simp [spotsF]
theorem look_mem {rows : List (Int × Rl × Int)} (nd : (rows.map (·.1)).Nodup) {r : Int × Rl × Int} (hr : r ∈ rows) : look rows r.1 = some r.2 := by
  obtain ⟨i, e⟩ := List.mem_iff_getElem?.mp hr
  exact look_nd nd e
/-- each end of a span that is shut is one of the spots, and is not let -/
theorem span_spot {h : Hd} (nd : (h.rows.map (·.1)).Nodup) {lo hi on : Int} (h1 : lo = h.place + on ∨ lo = h.goal) (h2 : hi = h.place + on ∨ hi = h.goal) {z : Int × Int} (hz : z ∈ h.shuts lo hi) :
    (z.1 ∈ spotsF h on ∧ lo ≤ z.1 ∧ z.1 ≤ hi ∧ h.letP z.1 = false) ∧ (z.2 ∈ spotsF h on ∧ lo ≤ z.2 ∧ z.2 ≤ hi ∧ h.letP z.2 = false) := by
  obtain ⟨r, hr, rfl, g⟩ := shuts_mem.mp hz
  have e := look_mem nd hr
  obtain ⟨a, b⟩ := shut_le e g
  obtain ⟨c, d⟩ := shut_end e g
  refine ⟨⟨?_, a, by omega, not_let.mpr ⟨r, hr, (shut_in e a (by omega)).mpr ⟨by omega, g⟩⟩⟩, ⟨?_, by omega, b, not_let.mpr ⟨r, hr, (shut_in e (by omega) b).mpr ⟨g, by omega⟩⟩⟩⟩
  · rcases c with c | c
    · rw [c]
      rcases h1 with h1 | h1
      · rw [h1]; exact spots_on
      · rw [h1]; exact spots_goal
    · exact spots_near hr c
  · rcases d with c | c
    · rw [c]
      rcases h2 with h1 | h1
      · rw [h1]; exact spots_on
      · rw [h1]; exact spots_goal
    · exact spots_near hr c
theorem spot_span {h : Hd} (nd : (h.rows.map (·.1)).Nodup) {lo hi x : Int} (h1 : lo ≤ x) (h2 : x ≤ hi) (hx : h.letP x = false) : ∃ z ∈ h.shuts lo hi, z.1 ≤ x ∧ x ≤ z.2 := by
  obtain ⟨r, hr, e⟩ := not_let.mp hx
  have lk := look_mem nd hr
  have w := (shut_in lk h1 h2).mp e
  exact ⟨h.shut r.1 lo hi, shuts_mem.mpr ⟨r, hr, rfl, by omega⟩, w⟩
/-- the spots in the order in which they are gone through -/
def SpotsAt (h : Hd) (b : Bool) (M : List Int) : Prop := b = decide (h.place < h.goal) ∧ (∀ x, x ∈ M ↔ x ∈ spotsF h (if b = true then 1 else -1) ∧ (if h.goal < h.place then h.goal else h.place) ≤ x ∧ x ≤ (if h.place < h.goal then h.goal else h.place) ∧ x ≠ h.place) ∧ M.Pairwise (fun x y => if b = true then x ≤ y else y ≤ x)
theorem first_at {M : List Int} {R : Int → Int → Prop} (pw : M.Pairwise R) (rf : ∀ x, R x x) {f : Int → Bool} {i : Nat} {s : Int} (e : M[i]? = some s) (al : ∀ y ∈ M.take i, f y = true) {x : Int} (hx : x ∈ M) (nf : f x = false) : R s x := by
  obtain ⟨j, ej⟩ := List.mem_iff_getElem?.mp hx
  have hj := (List.getElem?_eq_some_iff.mp ej).1
  have hi := (List.getElem?_eq_some_iff.mp e).1
  rcases Nat.lt_trichotomy j i with c | c | c
  · have := al x (List.mem_iff_getElem?.mpr ⟨j, by rw [List.getElem?_take_of_lt c]; exact ej⟩)
    rw [nf] at this
    cases this
  · subst c
    rw [e] at ej
    cases ej
    exact rf _
  · have := List.pairwise_iff_getElem.mp pw i j hi hj c
    rw [List.getElem?_eq_getElem hi] at e
    rw [List.getElem?_eq_getElem hj] at ej
    cases e
    cases ej
    exact this
theorem stop_at {h : Hd} (nd : (h.rows.map (·.1)).Nodup) {b : Bool} {M : List Int} (S : SpotsAt h b M) {i : Nat} {s : Int} (e : M[i]? = some s) (al : ∀ y ∈ M.take i, h.letP y = true) (nf : h.letP s = false) : StP h (s - (if b = true then 1 else -1)) := by
  obtain ⟨hb, hm, pw⟩ := S
  have sM := (hm s).mp (List.mem_of_getElem? e)
  obtain ⟨-, s1, s2, s3⟩ := sM
  cases b with
  | true =>
    have c : h.place < h.goal := of_decide_eq_true hb.symm
    rw [if_neg (by omega)] at s1
    rw [if_pos c] at s2
    rw [if_pos rfl]
    have fst : ∀ z ∈ h.shuts (h.place + 1) h.goal, s ≤ z.1 := fun z hz => by
      obtain ⟨⟨p1, p2, p3, p4⟩, -⟩ := span_spot nd (on := 1) (.inl rfl) (.inr rfl) hz
      have := first_at pw (fun x => by rw [if_pos rfl]; exact Int.le_refl _) e al ((hm z.1).mpr ⟨p1, by rw [if_neg (by omega)]; omega, by rw [if_pos c]; exact p3, by omega⟩) p4
      rw [if_pos rfl] at this
      exact this
    obtain ⟨z, hz, z1, z2⟩ := spot_span nd (lo := h.place + 1) (hi := h.goal) (by omega) s2 nf
    have z3 := fst z hz
    refine .inl ⟨c, List.mem_append_left _ (List.mem_map.mpr ⟨z, hz, by omega⟩), fun y hy => ?_⟩
    rcases List.mem_append.mp hy with hy | hy
    · obtain ⟨z', hz', rfl⟩ := List.mem_map.mp hy
      have := fst z' hz'
      omega
    · rw [List.mem_singleton.mp hy]
      omega
  | false =>
    have c : ¬ h.place < h.goal := of_decide_eq_false hb.symm
    rw [if_neg c] at s2
    have c2 : h.goal < h.place := by
      by_cases c2 : h.goal < h.place
      · exact c2
      · rw [if_neg c2] at s1
        omega
    rw [if_pos c2] at s1
    rw [if_neg (by decide)]
    have fst : ∀ z ∈ h.shuts h.goal (h.place - 1), z.2 ≤ s := fun z hz => by
      obtain ⟨-, p1, p2, p3, p4⟩ := span_spot nd (on := -1) (.inr rfl) (.inl (by omega)) hz
      have := first_at pw (fun x => by rw [if_neg (by decide)]; exact Int.le_refl _) e al ((hm z.2).mpr ⟨p1, by rw [if_pos c2]; exact p2, by rw [if_neg c]; omega, by omega⟩) p4
      rw [if_neg (by decide)] at this
      exact this
    obtain ⟨z, hz, z1, z2⟩ := spot_span nd (lo := h.goal) (hi := h.place - 1) s1 (by omega) nf
    have z3 := fst z hz
    refine .inr (.inl ⟨c2, List.mem_append_left _ (List.mem_map.mpr ⟨z, hz, by omega⟩), fun y hy => ?_⟩)
    rcases List.mem_append.mp hy with hy | hy
    · obtain ⟨z', hz', rfl⟩ := List.mem_map.mp hy
      have := fst z' hz'
      omega
    · rw [List.mem_singleton.mp hy]
      omega
theorem stop_goal {h : Hd} (nd : (h.rows.map (·.1)).Nodup) {b : Bool} {M : List Int} (S : SpotsAt h b M) (al : ∀ y ∈ M, h.letP y = true) : StP h h.goal := by
  obtain ⟨hb, hm, pw⟩ := S
  cases b with
  | true =>
    have c : h.place < h.goal := of_decide_eq_true hb.symm
    have none : ∀ z, z ∉ h.shuts (h.place + 1) h.goal := fun z hz => by
      obtain ⟨⟨p1, p2, p3, p4⟩, -⟩ := span_spot nd (on := 1) (.inl rfl) (.inr rfl) hz
      have := al z.1 ((hm z.1).mpr ⟨p1, by rw [if_neg (by omega)]; omega, by rw [if_pos c]; exact p3, by omega⟩)
      rw [p4] at this
      cases this
    refine .inl ⟨c, List.mem_append_right _ (List.mem_singleton.mpr rfl), fun y hy => ?_⟩
    rcases List.mem_append.mp hy with hy | hy
    · obtain ⟨z', hz', rfl⟩ := List.mem_map.mp hy
      exact absurd hz' (none z')
    · rw [List.mem_singleton.mp hy]
      omega
  | false =>
    have c : ¬ h.place < h.goal := of_decide_eq_false hb.symm
    by_cases c2 : h.goal < h.place
    · have none : ∀ z, z ∉ h.shuts h.goal (h.place - 1) := fun z hz => by
        obtain ⟨-, p1, p2, p3, p4⟩ := span_spot nd (on := -1) (.inr rfl) (.inl (by omega)) hz
        have := al z.2 ((hm z.2).mpr ⟨p1, by rw [if_pos c2]; exact p2, by rw [if_neg c]; omega, by omega⟩)
        rw [p4] at this
        cases this
      refine .inr (.inl ⟨c2, List.mem_append_right _ (List.mem_singleton.mpr rfl), fun y hy => ?_⟩)
      rcases List.mem_append.mp hy with hy | hy
      · obtain ⟨z', hz', rfl⟩ := List.mem_map.mp hy
        exact absurd hz' (none z')
      · rw [List.mem_singleton.mp hy]
        omega
    · exact .inr (.inr ⟨by omega, by omega⟩)
end K64

set_option Elab.async false
set_option linter.all false
set_option maxRecDepth 100000
namespace K64
open PySem PySem.Spec PyProof.Rows L2 NB

/-! ### letters told, shown; a second stride is none -/
def btD (b : Bt) : PyData := .tuple [.int b.1, ltD b.2]
theorem dp_bts {K : PySem.W.Frag} {H : Hp} : ∀ {as : List Addr} {bs : List Bt}, BtAt H as bs → DpAll K H (as.map V.ref) (bs.map btD)
  | [], [], _ => .nil
  | _ :: _, _ :: _, ⟨⟨l, e, g⟩, c⟩ => .cons (.tup (.inl (.inl e)) (.cons (.int _) (.cons (dp_let g) .nil))) (dp_bts c)
  | [], _ :: _, h => h.elim
  | _ :: _, [], h => h.elim
theorem dp_bat {K : PySem.W.Frag} {H : Hp} {g : Addr} {bs : List Bt} (h : BAt H g bs) : Dp K H (.ref g) (.tuple (bs.map btD)) := by
  obtain ⟨as, e, b⟩ := h
  exact .tup (.inl (.inl e)) (dp_bts b)
theorem Small.wd {a : Str} (h : a = "ask" ∨ a = "leave" ∨ a = "word") : Small (.str a) 150 0 := by
  rcases h with rfl | rfl | rfl <;> exact ⟨rfl, rfl, Nat.le_refl _, by decide +kernel, by decide +kernel⟩
theorem small_wi {o : Option Wi} (h : ∀ w, o = some w → WiP w) : Small (wiD o) 4100 2 := by
  cases o with
  | none => exact ⟨rfl, rfl, Nat.zero_le _, rfl, Nat.zero_le _⟩
  | some w =>
    obtain ⟨h1, h2, _, h4, h5⟩ := h w rfl
    have e : ((10 ^ 30 : Nat) : Int) = 10 ^ 30 := by norm_cast
    have a1 : w.1.natAbs < 10 ^ 90 := Nat.lt_trans (show w.1.natAbs < 10 ^ 30 by omega) (by decide)
    have a2 : ∀ x ∈ w.2, x.natAbs < 10 ^ 90 := fun x hx => by
      obtain ⟨p1, p2⟩ := h5 x hx
      exact Nat.lt_trans (show x.natAbs < 10 ^ 30 by omega) (by decide)
    have c := Small.tuple (SmallAll.cons (Small.int a1) (SmallAll.cons (Small.tuple (SmallAll.ints a2)) .nil))
    exact ⟨c.sh, c.nd, Nat.le_trans c.dp (by decide), c.lv, Nat.le_trans c.wt (by omega)⟩
def LtS (l : Lt) : Prop := (l.1 = "ask" ∨ l.1 = "leave" ∨ l.1 = "word") ∧ l.2.1.length ≤ 2 ∧ (∀ x ∈ l.2.1, x.natAbs < 10 ^ 90) ∧ ∀ w, l.2.2 = some w → WiP w
theorem small_lt {l : Lt} (h : LtS l) : Small (ltD l) 4900 3 := by
  obtain ⟨a, ns, o⟩ := l
  obtain ⟨h1, h2, h3, h4⟩ := h
  match ns, h2, h3 with
  | [], _, _ =>
    have c := Small.tuple (SmallAll.cons (Small.wd h1) (SmallAll.cons (small_wi h4) .nil))
    exact ⟨c.sh, c.nd, Nat.le_trans c.dp (by decide), c.lv, Nat.le_trans c.wt (by omega)⟩
  | [i], _, h3 =>
    have c := Small.tuple (SmallAll.cons (Small.wd h1) (SmallAll.cons (Small.int (h3 i (by simp))) (SmallAll.cons (small_wi h4) .nil)))
    exact ⟨c.sh, c.nd, Nat.le_trans c.dp (by decide), c.lv, Nat.le_trans c.wt (by omega)⟩
  | [i, j], _, h3 =>
    have c := Small.tuple (SmallAll.cons (Small.wd h1) (SmallAll.cons (Small.int (h3 i (by simp))) (SmallAll.cons (Small.int (h3 j (by simp))) (SmallAll.cons (small_wi h4) .nil))))
    exact ⟨c.sh, c.nd, Nat.le_trans c.dp (by decide), c.lv, Nat.le_trans c.wt (by omega)⟩
def BtS (b : Bt) : Prop := b.1.natAbs < 10 ^ 90 ∧ LtS b.2
theorem small_bt {b : Bt} (h : BtS b) : Small (btD b) 5300 4 := by
  have c := Small.tuple (SmallAll.cons (Small.int h.1) (SmallAll.cons (small_lt h.2) .nil))
  exact ⟨c.sh, c.nd, Nat.le_trans c.dp (by decide), c.lv, Nat.le_trans c.wt (by omega)⟩
theorem small_bts : ∀ {bs : List Bt}, (∀ b ∈ bs, BtS b) → SmallAll (bs.map btD) (5301 * bs.length) 4
  | [], _ => ⟨rfl, rfl, Nat.zero_le _, rfl, Nat.le_refl _⟩
  | b :: bs, h => by
    have c := SmallAll.cons (small_bt (h b List.mem_cons_self)) (small_bts fun y hy => h y (List.mem_cons_of_mem _ hy))
    refine ⟨c.sh, c.nd, c.dp, c.lv, Nat.le_trans c.wt ?_⟩
    rw [List.length_cons]
    omega
/-- what a hand tells of itself is small -/
def HdS (h : Hd) : Prop := (∀ r ∈ h.rows, r.1.natAbs < 10 ^ 60 ∧ r.2.2.natAbs < 10 ^ 60 ∧ r.2.1.1.1 ≤ 12 ∧ r.2.1.2.1 ≤ 12) ∧ ∀ w, h.wish = some w → WiP w
theorem look_some {rows : List (Int × Rl × Int)} {n : Int} {z : Rl × Int} (e : look rows n = some z) : (n, z) ∈ rows := by
  unfold look at e
  cases hf : rows.find? fun r => decide (r.1 = n) with
  | none =>
    rw [hf] at e
    cases e
  | some y =>
    rw [hf] at e
    have h2 := List.find?_some hf
    have h3 : y.1 = n := of_decide_eq_true h2
    have h4 : y.2 = z := Option.some.inj e
    have h5 := List.mem_of_find?_eq_some hf
    rw [← h3, ← h4]
    exact h5
theorem othN_bd {h : Hd} (S : HdS h) (n : Int) : 0 ≤ h.othN n ∧ h.othN n ≤ 12 := by
  unfold Hd.othN
  cases e : look h.rows n with
  | none => exact ⟨Int.le_refl _, show (0 : Int) ≤ 12 by decide⟩
  | some z =>
    obtain ⟨_, _, h3, h4⟩ := S.1 _ (look_some e)
    dsimp only at h3 h4 ⊢
    unfold othT
    split <;> omega
theorem cntN_bd {h : Hd} (S : HdS h) (n : Int) : (h.cntN n).natAbs < 10 ^ 60 := by
  unfold Hd.cntN
  cases e : look h.rows n with
  | none => exact (show (0 : Int).natAbs < 10 ^ 60 by decide)
  | some z =>
    obtain ⟨_, h2, _, _⟩ := S.1 _ (look_some e)
    exact h2
theorem strict_len : ∀ (l : List Int) (lo hi : Int), l.Pairwise (· < ·) → (∀ x ∈ l, lo ≤ x ∧ x ≤ hi) → l = [] ∨ (l.length : Int) ≤ hi - lo + 1
  | [], _, _, _, _ => .inl rfl
  | a :: l, lo, hi, p, b => by
    right
    obtain ⟨p1, p2⟩ := List.pairwise_cons.mp p
    obtain ⟨b1, b2⟩ := b a List.mem_cons_self
    rcases strict_len l (a + 1) hi p2 (fun x hx => ⟨by have := p1 x hx; omega, (b x (List.mem_cons_of_mem _ hx)).2⟩) with h | h
    · rw [h]
      show ((0 + 1 : Nat) : Int) ≤ _
      omega
    · rw [List.length_cons]
      omega
theorem BtL.small {h : Hd} {bs : List Bt} (S : HdS h) (b : BtL h bs) : (∀ x ∈ bs, BtS x) ∧ bs.length ≤ h.rows.length + 13 := by
  obtain ⟨ys, yL, b⟩ := b
  have mem : ∀ n ∈ ys, n.natAbs < 10 ^ 60 := fun n hn => by
    obtain ⟨q, c, e, _⟩ := yL.mem hn
    exact (S.1 _ (look_some e)).1
  have up : ∀ {z : Nat}, z < 10 ^ 60 → z < 10 ^ 90 := fun hz => Nat.lt_trans hz (by decide)
  have asks : ∀ x ∈ h.asks ys, BtS x := fun x hx => by
    obtain ⟨n, hn, rfl⟩ := List.mem_map.mp hx
    have o := othN_bd S n
    refine ⟨up (Nat.lt_of_le_of_lt (show (h.othN n).natAbs ≤ 12 by omega) (by decide)), .inl rfl, Nat.le_refl _, fun y hy => ?_, S.2⟩
    rcases List.mem_cons.mp hy with rfl | hy
    · exact up (mem _ hn)
    · rw [List.mem_singleton.mp hy]
      exact up (cntN_bd S n)
  have la : (h.asks ys).length ≤ h.rows.length := by
    unfold Hd.asks
    rw [List.length_map]
    exact yL.len
  rcases b with ⟨_, rfl⟩ | ⟨_, ss, ts, sL, pw, tm, rfl⟩
  · exact ⟨asks, by omega⟩
  · have tb : ∀ k ∈ ts, 0 ≤ k ∧ k ≤ 12 := fun k hk => by
      obtain ⟨n, _, rfl⟩ := List.mem_map.mp ((tm k).mp hk)
      exact othN_bd S n
    refine ⟨fun x hx => ?_, ?_⟩
    · rcases List.mem_append.mp hx with hx | hx
      · exact asks x hx
      · obtain ⟨k, hk, rfl⟩ := List.mem_map.mp hx
        have := tb k hk
        exact ⟨up (Nat.lt_of_le_of_lt (show k.natAbs ≤ 12 by omega) (by decide)), .inr (.inr rfl), Nat.zero_le _, (fun y hy => absurd hy List.not_mem_nil), S.2⟩
    · rw [List.length_append]
      have lw : (h.words ts).length ≤ 13 := by
        unfold Hd.words
        rw [List.length_map]
        rcases strict_len ts 0 12 pw tb with e | e
        · rw [e]; decide
        · omega
      omega
theorem LkL.small {h : Hd} {ys : List Int} (S : HdS h) (b : LkL h ys) : (∀ x ∈ ys, x.natAbs < 10 ^ 90) ∧ ys.length ≤ h.rows.length :=
  ⟨fun n hn => by
    obtain ⟨q, c, e, _⟩ := b.mem hn
    exact Nat.lt_trans (S.1 _ (look_some e)).1 (by decide), b.len⟩
end K64

set_option Elab.async false
set_option linter.all false
set_option maxRecDepth 100000
namespace K64
open PySem PySem.Spec PyProof.Rows L2 NB

/-! ### a stride more is none -/
theorem goal_place (h : Hd) (p : Int) (hw : h.wish ≠ none) : ({ h with place := p } : Hd).goal = h.goal := by
  unfold Hd.goal
  cases e : h.wish with
  | none => exact absurd e hw
  | some w => rfl
theorem StP.again {h : Hd} (nd : (h.rows.map (·.1)).Nodup) (hw : h.wish ≠ none) {p : Int} (a : StP h p) : StP { h with place := p } p := by
  have hg := goal_place h p hw
  have hl : ∀ x, ({ h with place := p } : Hd).letP x = h.letP x := fun x => rfl
  rcases a with ⟨c, m, l⟩ | ⟨c, m, l⟩ | ⟨c, rfl⟩
  · have pg : p ≤ h.goal := l _ (List.mem_append_right _ (List.mem_singleton.mpr rfl))
    by_cases e : p = h.goal
    · exact .inr (.inr ⟨by rw [hg]; exact e.symm, rfl⟩)
    · rcases List.mem_append.mp m with m | m
      · obtain ⟨z, hz, ez⟩ := List.mem_map.mp m
        obtain ⟨⟨_, q2, q3, q4⟩, -⟩ := span_spot nd (on := 1) (.inl rfl) (.inr rfl) hz
        have pz : z.1 = p + 1 := by omega
        rw [pz] at q3 q4
        obtain ⟨z', hz', z1, z2⟩ := spot_span (h := { h with place := p }) nd (lo := p + 1) (hi := h.goal) (Int.le_refl _) q3 (by rw [hl]; exact q4)
        obtain ⟨⟨_, q5, _, _⟩, -⟩ := span_spot (h := { h with place := p }) nd (lo := p + 1) (hi := h.goal) (on := 1) (.inl rfl) (.inr hg.symm) hz'
        refine .inl ⟨by rw [hg]; show p < h.goal; omega, ?_, fun y hy => ?_⟩
        · rw [hg]
          exact List.mem_append_left _ (List.mem_map.mpr ⟨z', hz', by omega⟩)
        · rw [hg] at hy
          rcases List.mem_append.mp hy with hy | hy
          · obtain ⟨u, hu, rfl⟩ := List.mem_map.mp hy
            obtain ⟨⟨_, q6, _, _⟩, -⟩ := span_spot (h := { h with place := p }) nd (lo := p + 1) (hi := h.goal) (on := 1) (.inl rfl) (.inr hg.symm) hu
            omega
          · rw [List.mem_singleton.mp hy]
            exact pg
      · exact absurd (List.mem_singleton.mp m) e
  · have pg : h.goal ≤ p := l _ (List.mem_append_right _ (List.mem_singleton.mpr rfl))
    by_cases e : p = h.goal
    · exact .inr (.inr ⟨by rw [hg]; exact e.symm, rfl⟩)
    · rcases List.mem_append.mp m with m | m
      · obtain ⟨z, hz, ez⟩ := List.mem_map.mp m
        obtain ⟨-, _, q2, q3, q4⟩ := span_spot nd (on := -1) (.inr rfl) (.inl (by omega)) hz
        have pz : z.2 = p - 1 := by omega
        rw [pz] at q2 q4
        obtain ⟨z', hz', z1, z2⟩ := spot_span (h := { h with place := p }) nd (lo := h.goal) (hi := p - 1) q2 (Int.le_refl _) (by rw [hl]; exact q4)
        obtain ⟨-, _, _, q5, _⟩ := span_spot (h := { h with place := p }) nd (lo := h.goal) (hi := p - 1) (on := -1) (.inr hg.symm) (.inl (show p - 1 = p + -1 by omega)) hz'
        refine .inr (.inl ⟨by rw [hg]; show h.goal < p; omega, ?_, fun y hy => ?_⟩)
        · rw [hg]
          exact List.mem_append_left _ (List.mem_map.mpr ⟨z', hz', by omega⟩)
        · rw [hg] at hy
          rcases List.mem_append.mp hy with hy | hy
          · obtain ⟨u, hu, rfl⟩ := List.mem_map.mp hy
            obtain ⟨-, _, _, q6, _⟩ := span_spot (h := { h with place := p }) nd (lo := h.goal) (hi := p - 1) (on := -1) (.inr hg.symm) (.inl (show p - 1 = p + -1 by omega)) hu
            omega
          · rw [List.mem_singleton.mp hy]
            exact pg
      · exact absurd (List.mem_singleton.mp m) e
  · exact .inr (.inr ⟨by rw [hg]; exact c, rfl⟩)
theorem StP.bd {h : Hd} (nd : (h.rows.map (·.1)).Nodup) {p : Int} (a : StP h p) : (h.place ≤ p ∧ p ≤ h.goal) ∨ (h.goal ≤ p ∧ p ≤ h.place) := by
  rcases a with ⟨c, m, l⟩ | ⟨c, m, l⟩ | ⟨c, rfl⟩
  · left
    refine ⟨?_, l _ (List.mem_append_right _ (List.mem_singleton.mpr rfl))⟩
    rcases List.mem_append.mp m with m | m
    · obtain ⟨z, hz, ez⟩ := List.mem_map.mp m
      obtain ⟨⟨_, q2, q3, q4⟩, -⟩ := span_spot nd (on := 1) (.inl rfl) (.inr rfl) hz
      omega
    · rw [List.mem_singleton.mp m]
      omega
  · right
    refine ⟨l _ (List.mem_append_right _ (List.mem_singleton.mpr rfl)), ?_⟩
    rcases List.mem_append.mp m with m | m
    · obtain ⟨z, hz, ez⟩ := List.mem_map.mp m
      obtain ⟨-, _, q2, q3, q4⟩ := span_spot nd (on := -1) (.inr rfl) (.inl (by omega)) hz
      omega
    · rw [List.mem_singleton.mp m]
      omega
  · left
    omega
theorem put_ok2 (h : Hd) (v : V) (D T : Addr) (p : Int) : putK (kvO h v D T) (Sum.inr "place") (.int p) = kvO { h with place := p } v D T := by
  have n1 : ¬ ((Sum.inr ("thing" : Str) : Key) = Sum.inr ("place" : Str)) := by decide +kernel
  have n2 : ¬ ((Sum.inr ("wish" : Str) : Key) = Sum.inr ("place" : Str)) := by decide +kernel
  have n3 : ¬ ((Sum.inr ("rules" : Str) : Key) = Sum.inr ("place" : Str)) := by decide +kernel
  have n4 : ¬ ((Sum.inr ("counts" : Str) : Key) = Sum.inr ("place" : Str)) := by decide +kernel
  have n5 : ¬ (("wish" : Str) = "place") := by decide +kernel
  have n6 : ¬ (("rules" : Str) = "place") := by decide +kernel
  have n7 : ¬ (("counts" : Str) = "place") := by decide +kernel
  unfold kvO
  simp [putK, n1, n2, n3, n4, n5, n6, n7]
def spWent (C : Addr) : Sp := fun vs H Q _ => ∃ (x D T O E F : Addr) (h : Hd), vs = [.ref x, .ref O] ∧ HandAt C H x D T h ∧ OwnU H O E F h ∧ D ≠ T ∧ (∃ kvs, H D = some (.dK kvs)) ∧ O ≠ x ∧ O ≠ D ∧ O ≠ T ∧ T ≠ E ∧ T ≠ F ∧ (h.rows.map (·.1)).Nodup ∧ h.rows.length ≤ 8 ∧
  (∀ r ∈ h.rows, shrd r.2.1 = true → MineQ h r.2.1) ∧ h.thing = 0 ∧ (∃ w, h.wish = some w ∧ h.thing < w.2.length) ∧ HdS h ∧ h.place.natAbs < 10 ^ 31 ∧
  ∀ H' p, (∀ b o, b ≠ x → b ≠ T → b ≠ O → H b = some o → H' b = some o) → HandAt C H' x D T { h with place := p } → OwnU H' O E F { h with place := p } → StP h p → Q (.bl true) H'
section
variable {P : Program} {w : World} {K : PySem.W.Frag} {mg : Str → Option Value} {base : Heap}
end

/-! ### both hands -/
structure Twin (C : Addr) (H : Hp) (x D T O E F : Addr) (h : Hd) : Prop where
  a : HandAt C H x D T h
  u : ∃ kvs, H D = some (.dK kvs)
  o : OwnU H O E F h
  nDT : D ≠ T
  nOD : O ≠ D
  nOT : O ≠ T
  nTE : T ≠ E
  nTF : T ≠ F
  nDF : D ≠ F
def Fx (x T O F : Addr) (H H' : Hp) : Prop := ∀ b o, b ≠ x → b ≠ T → b ≠ O → b ≠ F → H b = some o → H' b = some o
theorem Fx.trans {x T O F : Addr} {H H1 H2 : Hp} (a : Fx x T O F H H1) (b : Fx x T O F H1 H2) : Fx x T O F H H2 := fun c o n1 n2 n3 n4 e => b c o n1 n2 n3 n4 (a c o n1 n2 n3 n4 e)
theorem Fx.of {x T O F : Addr} {H H' : Hp} (s : Same H H') : Fx x T O F H H' := fun b o _ _ _ _ e => s b o e
theorem Twin.x {C : Addr} {H : Hp} {x D T O E F : Addr} {h : Hd} (t : Twin C H x D T O E F h) : ∃ dx fs, H x = some (.ins C dx fs) := by
  obtain ⟨dx, v, hs, e, _⟩ := t.a
  exact ⟨dx, _, e⟩
theorem Twin.T {C : Addr} {H : Hp} {x D T O E F : Addr} {h : Hd} (t : Twin C H x D T O E F h) : ∃ kvs, H T = some (.dK kvs) := by
  obtain ⟨dx, v, hs, e, _, _, e2, _⟩ := t.a
  exact ⟨_, e2⟩
theorem Twin.O {C : Addr} {H : Hp} {x D T O E F : Addr} {h : Hd} (t : Twin C H x D T O E F h) : ∃ kvs, H O = some (.dK kvs) := by
  obtain ⟨v, hs, e, _⟩ := t.o
  exact ⟨_, e⟩
theorem Twin.F {C : Addr} {H : Hp} {x D T O E F : Addr} {h : Hd} (t : Twin C H x D T O E F h) : ∃ kvs, H F = some (.dK kvs) := by
  obtain ⟨v, hs, e, _, _, e2, _⟩ := t.o
  exact ⟨_, e2⟩
theorem Twin.sep {C : Addr} {H : Hp} {x D T O E F : Addr} {h : Hd} (t : Twin C H x D T O E F h) {b : Addr} {o : HO} (e : H b = some o) (n1 : ∀ dx fs, o ≠ .ins C dx fs) (n2 : ∀ kvs, o ≠ .dK kvs) : b ≠ x ∧ b ≠ T ∧ b ≠ O ∧ b ≠ F := by
  obtain ⟨dx, fs, ex⟩ := t.x
  obtain ⟨k1, e1⟩ := t.T
  obtain ⟨k2, e2⟩ := t.O
  obtain ⟨k3, e3⟩ := t.F
  refine ⟨fun z => ?_, fun z => ?_, fun z => ?_, fun z => ?_⟩
  · rw [z, ex] at e
    exact n1 _ _ (Option.some.inj e).symm
  · rw [z, e1] at e
    exact n2 _ (Option.some.inj e).symm
  · rw [z, e2] at e
    exact n2 _ (Option.some.inj e).symm
  · rw [z, e3] at e
    exact n2 _ (Option.some.inj e).symm
theorem Twin.tk {C : Addr} {H H' : Hp} {x D T O E F : Addr} {h : Hd} (t : Twin C H x D T O E F h) (f : Fx x T O F H H') : TupK H H' := fun b xs e => by
  obtain ⟨n1, n2, n3, n4⟩ := t.sep e (fun _ _ z => by cases z) (fun _ z => by cases z)
  exact f _ _ n1 n2 n3 n4 e
theorem Twin.pot {C : Addr} {H H' : Hp} {x D T O E F p : Addr} {c : Nat} {h : Hd} (t : Twin C H x D T O E F h) (f : Fx x T O F H H') (q : PotAt H p c) : PotAt H' p c := by
  obtain ⟨a, b, r, e, h1⟩ := q
  obtain ⟨n1, n2, n3, n4⟩ := t.sep e (fun _ _ z => by cases z) (fun _ z => by cases z)
  exact ⟨a, b, r, f _ _ n1 n2 n3 n4 e, h1⟩
theorem Twin.same {C : Addr} {H H' : Hp} {x D T O E F : Addr} {h : Hd} (t : Twin C H x D T O E F h) (s : Same H H') : Twin C H' x D T O E F h := by
  obtain ⟨a, ⟨kvs, u⟩, o, n⟩ := t
  exact ⟨a.same s, ⟨kvs, s _ _ u⟩, o.same s, n, by assumption, by assumption, by assumption, by assumption, by assumption⟩
theorem Twin.nOx {C : Addr} {H : Hp} {x D T O E F : Addr} {h : Hd} (t : Twin C H x D T O E F h) : O ≠ x ∧ E ≠ x ∧ F ≠ x ∧ D ≠ x ∧ T ≠ x := by
  obtain ⟨dx, fs, ex⟩ := t.x
  obtain ⟨k0, e0⟩ := t.u
  obtain ⟨k1, e1⟩ := t.T
  obtain ⟨k2, e2⟩ := t.O
  obtain ⟨k3, e3⟩ := t.F
  obtain ⟨v, hs, _, _, e4, _⟩ := t.o
  refine ⟨fun z => ?_, fun z => ?_, fun z => ?_, fun z => ?_, fun z => ?_⟩
  · rw [z, ex] at e2; cases e2
  · rw [z, ex] at e4; cases e4
  · rw [z, ex] at e3; cases e3
  · rw [z, ex] at e0; cases e0
  · rw [z, ex] at e1; cases e1
/-- the hand has gone on, the record not yet -/
theorem Twin.hand {C : Addr} {H H' : Hp} {x D T O E F : Addr} {h h1 : Hd} (o : OwnU H O E F h1) (t : Twin C H x D T O E F h) (b : ButH x T H H') : OwnU H' O E F h1 := by
  obtain ⟨n1, n2, n3, n4, n5⟩ := t.nOx
  have tk := b.tk t.a
  obtain ⟨v, hs, e, w, d, c, l, m⟩ := o
  exact ⟨v, hs, b _ _ n1 t.nOT e, w.tk tk, b _ _ n2 t.nTE.symm d, b _ _ n3 t.nTF.symm c, l.tk tk, m⟩
structure OkH (top : Int) (k : Nat) (h : Hd) : Prop where
  th : h.thing = 0
  p0 : 0 ≤ h.place
  p1 : h.place ≤ top
  nd : (h.rows.map (·.1)).Nodup
  l8 : h.rows.length ≤ 8
  ok : ∀ r ∈ h.rows, (r.2.1.1.1 = 0 ∨ r.2.1.2.1 = 0) ∧ r.2.1.1.1 ≤ 1 ∧ r.2.1.2.1 ≤ 1 ∧ 0 ≤ r.1 ∧ r.1 < 9 ∧ 0 ≤ r.2.2 ∧ r.2.2 ≤ (k : Int)
theorem OkH.mine {top : Int} {k : Nat} {h : Hd} (o : OkH top k h) : ∀ r ∈ h.rows, shrd r.2.1 = true → MineQ h r.2.1 := fun r hr _ => by
  unfold MineQ
  rw [o.th]
  exact (o.ok r hr).1
theorem OkH.mono {top : Int} {k m : Nat} {h : Hd} (o : OkH top k h) (km : k ≤ m) : OkH top m h := ⟨o.th, o.p0, o.p1, o.nd, o.l8, fun r hr => by
  obtain ⟨a, b, c, d, e, f, g⟩ := o.ok r hr
  exact ⟨a, b, c, d, e, f, by omega⟩⟩
theorem OkH.hds {top : Int} {k : Nat} {h : Hd} (o : OkH top k h) (hk : k ≤ 1000) (hw : ∀ w, h.wish = some w → WiP w) : HdS h := ⟨fun r hr => by
  obtain ⟨a, b, c, d, e, f, g⟩ := o.ok r hr
  exact ⟨Nat.lt_of_lt_of_le (show r.1.natAbs < 9 by omega) (by decide), Nat.lt_of_le_of_lt (show r.2.2.natAbs ≤ 1000 by omega) (by decide), by omega, by omega⟩, hw⟩
theorem OkH.setc {top : Int} {k : Nat} {h : Hd} (o : OkH top k h) {n c : Int} (c0 : 0 ≤ c) (c1 : c ≤ ((k + 1 : Nat) : Int)) : OkH top (k + 1) (h.setc n c) := by
  refine ⟨o.th, o.p0, o.p1, ?_, ?_, fun r hr => ?_⟩
  · show ((putC h.rows n c).map (·.1)).Nodup
    rw [putC_keys]
    exact o.nd
  · show (putC h.rows n c).length ≤ 8
    unfold putC
    rw [List.length_map]
    exact o.l8
  · obtain ⟨r', hr', rfl⟩ := List.mem_map.mp (show r ∈ h.rows.map _ from hr)
    obtain ⟨a, b, c', d, e, f, g⟩ := o.ok r' hr'
    split
    · exact ⟨a, b, c', d, e, c0, c1⟩
    · exact ⟨a, b, c', d, e, f, by omega⟩
theorem putC_shR (rows : List (Int × Rl × Int)) (n c : Int) : putC (shR rows) n c = shR (putC rows n c) := by
  unfold putC shR
  rw [List.filter_map]
  congr 1
  refine List.filter_congr fun r _ => ?_
  show shrd r.2.1 = shrd (if r.1 = n then (r.1, r.2.1, c) else r).2.1
  split <;> rfl
/-- a leave comes to both -/
theorem leave_both {h : Hd} {n : Int} {z : Rl × Int} (e : look h.rows n = some z) (s : shrd z.1 = true) (hw : 0 ≤ wishN h.wish) : (h.hear ("leave", [n, z.2 + 1], none)).1 = h.setc n (z.2 + 1) := by
  rw [hear_at e s, hw_not (by show ¬ (0 : Int) > _; omega)]
  unfold Hd.hear2
  rw [if_pos (by rw [decide_eq_true (rfl : ("leave" : Str) = "leave")]; rfl)]
  show h.setc n (mx z.2 (z.2 + 1)) = _
  unfold mx
  rw [if_pos (by omega)]
theorem put_ok3 (h : Hd) (v u : V) (D T : Addr) (o : Option Wi) : putK (kvO h v D T) (Sum.inr "wish") u = kvO { h with wish := o } u D T := by
  have n1 : ¬ ((Sum.inr ("thing" : Str) : Key) = Sum.inr ("wish" : Str)) := by decide +kernel
  have n2 : ¬ ((Sum.inr ("place" : Str) : Key) = Sum.inr ("wish" : Str)) := by decide +kernel
  have n3 : ¬ ((Sum.inr ("rules" : Str) : Key) = Sum.inr ("wish" : Str)) := by decide +kernel
  have n4 : ¬ ((Sum.inr ("counts" : Str) : Key) = Sum.inr ("wish" : Str)) := by decide +kernel
  have n5 : ¬ (("place" : Str) = "wish") := by decide +kernel
  have n6 : ¬ (("rules" : Str) = "wish") := by decide +kernel
  have n7 : ¬ (("counts" : Str) = "wish") := by decide +kernel
  have n8 : ¬ (("thing" : Str) = "wish") := by decide +kernel
  unfold kvO
  simp [putK, n1, n2, n3, n4, n5, n6, n7, n8]
theorem own_wish {H : Hp} {O E F : Addr} {h : Hd} {u : V} {o : Option Wi} (a : OwnU H O E F h) (w : WV H u o) : OwnU (upd H O (.dK (kvO { h with wish := o } u E F))) O E F { h with wish := o } := by
  obtain ⟨v, hs, e, _, d, t, l, n1, n2, n3⟩ := a
  have tk : TupK H (upd H O (.dK (kvO { h with wish := o } u E F))) := fun b xs eb => (upd_ne (fun z => by rw [z, e] at eb; cases eb)).trans eb
  exact ⟨u, hs, upd_same, w.tk tk, (upd_ne n2.symm).trans d, (upd_ne n3.symm).trans t, l.tk tk, n1, n2, n3⟩
theorem own_count {H : Hp} {O E F : Addr} {h : Hd} {n c : Int} (a : OwnU H O E F h) : OwnU (upd H F (.dK (kvT (shR (putC h.rows n c))))) O E F (h.setc n c) := by
  obtain ⟨v, hs, e, w, d, t, l, n1, n2, n3⟩ := a
  have tk : TupK H (upd H F (.dK (kvT (shR (putC h.rows n c))))) := fun b xs eb => (upd_ne (fun z => by rw [z, t] at eb; cases eb)).trans eb
  exact ⟨v, hs, (upd_ne n3).trans e, w.tk tk, (upd_ne n1).trans d, upd_same, (l.tk tk).put n c, n1, n2, n3⟩
theorem hand_upd {C : Addr} {H : Hp} {x D T b : Addr} {h : Hd} {kvs : List (Key × V)} {o : HO} (a : HandAt C H x D T h) (e : H b = some (.dK kvs)) (nD : D ≠ b) (nT : T ≠ b) : HandAt C (upd H b o) x D T h := by
  obtain ⟨dx, v, hs, a1, a2, a3, a4, a5⟩ := a
  have tk : TupK H (upd H b o) := fun c xs ec => (upd_ne (fun z => by rw [z, e] at ec; cases ec)).trans ec
  have nx : x ≠ b := fun z => by
    have a1' : H x = some (.ins C dx _) := a1
    rw [z, e] at a1'
    cases a1'
  exact ⟨dx, v, hs, (upd_ne nx).trans a1, a2.tk tk, ru nD a3, (upd_ne nT).trans a4, a5.tk tk⟩
def nmP : Nat → Int
  | 0 => 0
  | 1 => 1
  | 2 => 2
  | _ => 5

/-! ### the record hears -/
theorem hw_less {h : Hd} {o : Option Wi} : decide (wishN o < wishN (h.hw o).wish) = decide (wishN o < wishN h.wish) := by
  refine decide_eq_decide.mpr ?_
  unfold Hd.hw
  split
  · show wishN o < wishN o ↔ _
    omega
  · exact Iff.rfl
theorem ans_out {h : Hd} {n k : Int} {z : Rl × Int} (e : look h.rows n = some z) : h.ans n k = if z.2 = k then (if (leaveB h.thing z.1 z.2 && atB (ownS z.1 h.thing) h.place) = true then (h.setc n (k + 1), [(((othT z.1 h.thing : Nat) : Int), (("leave" : Str), [n, k + 1], h.wish))]) else (h, [])) else (h, [(((othT z.1 h.thing : Nat) : Int), (("leave" : Str), [n, z.2], h.wish))]) := by
  rw [ans_of e]
  have ec : h.cnd z k = (decide (z.2 = k) && (leaveB h.thing z.1 z.2 && atB (ownS z.1 h.thing) h.place)) := by
    unfold Hd.cnd
    rw [outB_at, Bool.not_not]
  unfold Hd.hup Hd.cup
  rw [ec]
  by_cases c : z.2 = k
  · rw [decide_eq_true c, Bool.true_and, if_pos c]
    by_cases d : (leaveB h.thing z.1 z.2 && atB (ownS z.1 h.thing) h.place) = true
    · rw [if_pos d, if_pos d, if_pos d, c, if_neg (by omega)]
    · rw [if_neg d, if_neg d, if_neg d, if_pos c]
  · rw [decide_eq_false c, Bool.false_and, if_neg c]
    simp only [Bool.false_eq_true, if_false, if_neg c]
def spHeard : Sp := fun vs H Q _ => ∃ (O D T g : Addr) (h : Hd) (l : Lt), vs = [.ref O, .ref g] ∧ OwnU H O D T h ∧ (h.rows.map (·.1)).Nodup ∧ h.rows.length ≤ 40 ∧ (∀ r ∈ h.rows, shrd r.2.1 = true → MineQ h r.2.1) ∧ LetAt H g l ∧ LetP l ∧
  ∀ H' a, (∀ b o, b ≠ O → b ≠ T → H b = some o → H' b = some o) → OwnU H' O D T (h.hear l).1 → BAt H' a (h.hear l).2 → Q (.ref a) H'
section
variable {P : Program} {w : World} {K : PySem.W.Frag} {mg : Str → Option Value} {base : Heap}
end

/-! ### the record goes on, place by place -/
def Gone (h : Hd) (p : Int) : Prop := (p = h.place ∨ h.wish ≠ none) ∧ ((h.place ≤ p ∧ p ≤ h.goal ∧ ∀ x, h.place < x → x ≤ p → h.letP x = true) ∨ (p ≤ h.place ∧ h.goal ≤ p ∧ ∀ x, p ≤ x → x < h.place → h.letP x = true))
theorem Gone.begin (h : Hd) : Gone h h.place := by
  refine ⟨.inl rfl, ?_⟩
  by_cases c : h.place ≤ h.goal
  · exact .inl ⟨Int.le_refl _, c, fun x a b => by omega⟩
  · exact .inr ⟨Int.le_refl _, by omega, fun x a b => by omega⟩
theorem Gone.goal {h : Hd} {p : Int} (g : Gone h p) : ({ h with place := p } : Hd).goal = h.goal := by
  rcases g.1 with e | e
  · rw [e]
  · exact goal_place h p e
def nxt (h : Hd) (p : Int) : Int := if p < h.goal then p + 1 else p - 1
def dis (p q : Int) : Int := if p - q < 0 then -(p - q) else p - q
theorem Gone.step {h : Hd} {p : Int} (g : Gone h p) (ne : ¬ h.goal = p) (hl : h.letP (nxt h p) = true) : Gone h (nxt h p) ∧ (h.goal - nxt h p).natAbs < (h.goal - p).natAbs ∧ dis (nxt h p) h.place = dis p h.place + 1 := by
  obtain ⟨w, g⟩ := g
  have hw : h.wish ≠ none := by
    rcases w with e | e
    · intro z
      refine ne ?_
      rw [e]
      unfold Hd.goal
      rw [z]
    · exact e
  unfold nxt dis at *
  rcases g with ⟨a, b, c⟩ | ⟨a, b, c⟩
  · have lt : p < h.goal := by omega
    rw [if_pos lt] at hl ⊢
    refine ⟨⟨.inr hw, .inl ⟨by omega, by omega, fun x x1 x2 => ?_⟩⟩, by omega, ?_⟩
    · by_cases e : x = p + 1
      · rw [e]; exact hl
      · exact c x x1 (by omega)
    · split <;> split <;> omega
  · have lt : ¬ p < h.goal := by omega
    rw [if_neg lt] at hl ⊢
    refine ⟨⟨.inr hw, .inr ⟨by omega, by omega, fun x x1 x2 => ?_⟩⟩, by omega, ?_⟩
    · by_cases e : x = p - 1
      · rw [e]; exact hl
      · exact c x (by omega) x2
    · split <;> split <;> omega
theorem Gone.stop {h : Hd} (nd : (h.rows.map (·.1)).Nodup) {p : Int} (g : Gone h p) (e : h.goal = p ∨ h.letP (nxt h p) = false) : StP h p := by
  obtain ⟨_, g⟩ := g
  rcases g with ⟨a, b, c⟩ | ⟨a, b, c⟩
  · by_cases pg : h.place < h.goal
    · have low : ∀ z ∈ h.shuts (h.place + 1) h.goal, p + 1 ≤ z.1 := fun z hz => by
        obtain ⟨⟨_, q2, q3, q4⟩, -⟩ := span_spot nd (on := 1) (.inl rfl) (.inr rfl) hz
        by_cases le : z.1 ≤ p
        · rw [c z.1 (by omega) le] at q4
          cases q4
        · omega
      have all : ∀ y ∈ ((h.shuts (h.place + 1) h.goal).map fun z => z.1 - 1) ++ [h.goal], p ≤ y := fun y hy => by
        rcases List.mem_append.mp hy with hy | hy
        · obtain ⟨z, hz, rfl⟩ := List.mem_map.mp hy
          have := low z hz
          omega
        · rw [List.mem_singleton.mp hy]
          exact b
      refine .inl ⟨pg, ?_, all⟩
      by_cases eg : h.goal = p
      · exact List.mem_append_right _ (List.mem_singleton.mpr eg.symm)
      · have nl := e.resolve_left eg
        unfold nxt at nl
        rw [if_pos (by omega)] at nl
        obtain ⟨z, hz, z1, z2⟩ := spot_span nd (lo := h.place + 1) (hi := h.goal) (by omega) (by omega) nl
        have := low z hz
        exact List.mem_append_left _ (List.mem_map.mpr ⟨z, hz, by omega⟩)
    · exact .inr (.inr ⟨by omega, by omega⟩)
  · by_cases pg : h.goal < h.place
    · have up : ∀ z ∈ h.shuts h.goal (h.place - 1), z.2 ≤ p - 1 := fun z hz => by
        obtain ⟨-, _, q2, q3, q4⟩ := span_spot nd (on := -1) (.inr rfl) (.inl (by omega)) hz
        by_cases le : p ≤ z.2
        · rw [c z.2 le (by omega)] at q4
          cases q4
        · omega
      have all : ∀ y ∈ ((h.shuts h.goal (h.place - 1)).map fun z => z.2 + 1) ++ [h.goal], y ≤ p := fun y hy => by
        rcases List.mem_append.mp hy with hy | hy
        · obtain ⟨z, hz, rfl⟩ := List.mem_map.mp hy
          have := up z hz
          omega
        · rw [List.mem_singleton.mp hy]
          exact b
      refine .inr (.inl ⟨pg, ?_, all⟩)
      by_cases eg : h.goal = p
      · exact List.mem_append_right _ (List.mem_singleton.mpr eg.symm)
      · have nl := e.resolve_left eg
        unfold nxt at nl
        rw [if_neg (by omega)] at nl
        obtain ⟨z, hz, z1, z2⟩ := spot_span nd (lo := h.goal) (hi := h.place - 1) (by omega) (by omega) nl
        have := up z hz
        exact List.mem_append_left _ (List.mem_map.mpr ⟨z, hz, by omega⟩)
    · exact .inr (.inr ⟨by omega, by omega⟩)
theorem own_place {H : Hp} {O E F : Addr} {h : Hd} {p : Int} (a : OwnU H O E F h) : ∃ v, H O = some (.dK (kvO h v E F)) ∧ OwnU (upd H O (.dK (kvO { h with place := p } v E F))) O E F { h with place := p } := by
  obtain ⟨v, hs, e, w, d, t, l, n1, n2, n3⟩ := a
  have tk : TupK H (upd H O (.dK (kvO { h with place := p } v E F))) := fun b xs eb => (upd_ne (fun z => by rw [z, e] at eb; cases eb)).trans eb
  exact ⟨v, e, v, hs, upd_same, w.tk tk, (upd_ne n2.symm).trans d, (upd_ne n3.symm).trans t, l.tk tk, n1, n2, n3⟩
def spStrode : Sp := fun vs H Q _ => ∃ (O D T : Addr) (h : Hd), vs = [.ref O] ∧ OwnU H O D T h ∧ (h.rows.map (·.1)).Nodup ∧ h.rows.length ≤ 40 ∧ (∀ r ∈ h.rows, shrd r.2.1 = true → MineQ h r.2.1) ∧ (∀ w, h.wish = some w → h.thing < w.2.length) ∧
  ∀ H' p, (∀ b o, b ≠ O → H b = some o → H' b = some o) → OwnU H' O D T { h with place := p } → StP h p → Q (.int (dis p h.place)) H'
section
variable {P : Program} {w : World} {K : PySem.W.Frag} {mg : Str → Option Value} {base : Heap}
end
end K64

set_option Elab.async false
set_option linter.all false
set_option maxRecDepth 100000
namespace K64
open PySem PySem.Spec PyProof.Rows L2 NB

/-! ### a hand that shares one rule -/
def one (i : Nat) (p : Int) (w : Option Wi) (n : Int) (q : Rl) (c : Int) : Hd := ⟨i, p, w, [(n, q, c)]⟩
section
variable {i : Nat} {p n c k : Int} {w o : Option Wi} {q : Rl}
theorem look_one1 : look [(n, q, c)] n = some (q, c) := by
  rw [look_cons]
  exact if_pos rfl
theorem hw_up (h : wishN w < wishN o) : (one i p w n q c).hw o = one i p o n q c := by
  unfold Hd.hw
  exact if_pos h
theorem hw_same (h : wishN o ≤ wishN w) : (one i p w n q c).hw o = one i p w n q c := by
  unfold Hd.hw
  exact if_neg (by show ¬ wishN w < wishN o; omega)
theorem setc_one : (one i p w n q c).setc n k = one i p w n q k := by
  unfold one Hd.setc putC
  simp
theorem hear_word (h : wishN w < wishN o) : (one i p w n q c).hear ("word", [], o) = (one i p o n q c, ([] : List Bt)) := by
  rw [hear_none rfl]
  show ((one i p w n q c).hw o, _) = _
  rw [hw_up h]
theorem hear_leave (s : shrd q = true) (h : wishN o ≤ wishN w) : (one i p w n q c).hear ("leave", [n, k], o) = (one i p w n q (mx c k), ([] : List Bt)) := by
  rw [hear_at (z := (q, c)) look_one1 s, hw_same h]
  unfold Hd.hear2
  rw [if_pos (by rw [decide_eq_true (rfl : ("leave" : Str) = "leave")]; rfl), setc_one]
theorem hear_less (s : shrd q = true) (h : wishN o < wishN w) : (one i p w n q c).hear ("ask", [n, k], o) = (one i p w n q (mx c k), ([] : List Bt)) := by
  rw [hear_at (z := (q, c)) look_one1 s, hw_same (by omega)]
  unfold Hd.hear2
  rw [if_pos (by rw [show decide (wishN o < wishN (one i p w n q c).wish) = true from decide_eq_true h, Bool.or_true]), setc_one]
theorem ask_ne : decide (("ask" : Str) = "leave") = false := decide_eq_false (by decide +kernel)
/-- an ask: given, kept, told -/
theorem hear_ask (s : shrd q = true) {v : Option Wi} (h : (v = o ∧ wishN w < wishN o) ∨ (v = w ∧ wishN o = wishN w)) : (one i p w n q c).hear ("ask", [n, k], o) =
    if mx c k = k then (if (leaveB i q k && atB (ownS q i) p) = true then (one i p v n q (k + 1), [(((othT q i : Nat) : Int), (("leave" : Str), [n, k + 1], v))]) else (one i p v n q k, [])) else (one i p v n q (mx c k), [(((othT q i : Nat) : Int), (("leave" : Str), [n, mx c k], v))]) := by
  have e1 : (one i p w n q c).hw o = one i p v n q c := by
    rcases h with ⟨rfl, h⟩ | ⟨rfl, h⟩
    · exact hw_up h
    · exact hw_same (by omega)
  have e2 : ¬ wishN o < wishN v := by
    rcases h with ⟨rfl, h⟩ | ⟨rfl, h⟩ <;> omega
  rw [hear_at (z := (q, c)) look_one1 s, e1]
  unfold Hd.hear2
  rw [if_neg (by rw [ask_ne, Bool.false_or]; show ¬ decide (wishN o < wishN v) = true; rw [decide_eq_true_eq]; exact e2), setc_one, ans_out (z := (q, mx c k)) look_one1]
  show (if mx c k = k then (if (leaveB i q (mx c k) && atB (ownS q i) p) = true then ((one i p v n q (mx c k)).setc n (k + 1), _) else _) else _) = _
  by_cases e : mx c k = k
  · rw [if_pos e, if_pos e, e, setc_one]
    rfl
  · rw [if_neg e, if_neg e]
    rfl
theorem hear_give (s : shrd q = true) {v : Option Wi} (h : (v = o ∧ wishN w < wishN o) ∨ (v = w ∧ wishN o = wishN w)) (e : c ≤ k) (l : leaveB i q k = true) (a : atB (ownS q i) p = true) : (one i p w n q c).hear ("ask", [n, k], o) = (one i p v n q (k + 1), [(((othT q i : Nat) : Int), (("leave" : Str), [n, k + 1], v))]) := by
  rw [hear_ask s h, if_pos (by unfold mx; split <;> omega), if_pos (by rw [l, a]; rfl)]
theorem hear_keep (s : shrd q = true) {v : Option Wi} (h : (v = o ∧ wishN w < wishN o) ∨ (v = w ∧ wishN o = wishN w)) (e : c ≤ k) (la : leaveB i q k = false ∨ atB (ownS q i) p = false) : (one i p w n q c).hear ("ask", [n, k], o) = (one i p v n q k, ([] : List Bt)) := by
  rw [hear_ask s h, if_pos (by unfold mx; split <;> omega), if_neg (by rcases la with l | l <;> simp [l])]
theorem hear_tell (s : shrd q = true) {v : Option Wi} (h : (v = o ∧ wishN w < wishN o) ∨ (v = w ∧ wishN o = wishN w)) (e : k < c) : (one i p w n q c).hear ("ask", [n, k], o) = (one i p v n q c, [(((othT q i : Nat) : Int), (("leave" : Str), [n, c], v))]) := by
  have : mx c k = c := by unfold mx; split <;> omega
  rw [hear_ask s h, this, if_neg (by omega)]
theorem mx_at {a b : Int} (h : a ≤ b) : mx a b = b := by unfold mx; split <;> omega
theorem mx_of {a b : Int} (h : b ≤ a) : mx a b = a := by unfold mx; split <;> omega
theorem letP_one {x : Int} (s : shrd q = true) : (one i p w n q c).letP x = (leaveB i q c || atB (ownS q i) x) := by
  unfold one Hd.letP letQ
  rw [List.all_cons, List.all_nil, Bool.and_true]
  exact if_pos s
theorem nd_one : (((one i p w n q c).rows).map (·.1)).Nodup := by
  unfold one
  simp
/-- where a hand comes to -/
theorem st_goal (s : shrd q = true) {g : Int} (hw : w ≠ none) (hg : (one i p w n q c).goal = g) (h : leaveB i q c = true ∨ ∀ x, (p < x ∧ x ≤ g) ∨ (g ≤ x ∧ x < p) → atB (ownS q i) x = true) : StP (one i p w n q c) g := by
  have al : ∀ x, (p < x ∧ x ≤ g) ∨ (g ≤ x ∧ x < p) → (one i p w n q c).letP x = true := fun x hx => by
    rw [letP_one s]
    rcases h with h | h
    · rw [h]; rfl
    · rw [h x hx, Bool.or_true]
  refine Gone.stop nd_one ⟨.inr hw, ?_⟩ (.inl hg)
  rw [hg]
  by_cases pg : p ≤ g
  · exact .inl ⟨pg, Int.le_refl _, fun x a b => al x (.inl ⟨a, b⟩)⟩
  · exact .inr ⟨by show g ≤ p; omega, Int.le_refl _, fun x a b => al x (.inr ⟨a, b⟩)⟩
theorem st_up (s : shrd q = true) {g t : Int} (hw : w ≠ none) (hg : (one i p w n q c).goal = g) (pt : p ≤ t) (tg : t < g) (h : ∀ x, x ≤ t → atB (ownS q i) x = true) (l : leaveB i q c = false) (f : atB (ownS q i) (t + 1) = false) : StP (one i p w n q c) t := by
  refine Gone.stop nd_one ⟨.inr hw, .inl ⟨pt, by omega, fun x a b => ?_⟩⟩ (.inr ?_)
  · rw [letP_one s, h x b, Bool.or_true]
  · unfold nxt
    rw [if_pos (by omega), letP_one s, l, f]
    rfl
theorem st_down (s : shrd q = true) {g t : Int} (hw : w ≠ none) (hg : (one i p w n q c).goal = g) (pt : t ≤ p) (tg : g < t) (h : ∀ x, t ≤ x → atB (ownS q i) x = true) (l : leaveB i q c = false) (f : atB (ownS q i) (t - 1) = false) : StP (one i p w n q c) t := by
  refine Gone.stop nd_one ⟨.inr hw, .inr ⟨pt, by omega, fun x a b => ?_⟩⟩ (.inr ?_)
  · rw [letP_one s, h x a, Bool.or_true]
  · unfold nxt
    rw [if_neg (by omega), letP_one s, l, f]
    rfl
theorem sh_one (s : shrd q = true) : ShL (one i p w n q c) [n] := by
  refine ⟨[n], ?_, List.pairwise_singleton _ _, ?_⟩
  · exact List.Perm.refl _
  · have : (one i p w n q c).shares n = true := by
      unfold Hd.shares one
      rw [look_one1]
      exact s
    rw [List.filter_cons_of_pos this, List.filter_nil]
theorem lk_none (s : shrd q = true) (h : (one i p w n q c).goal = p ∨ leaveB i q c = true ∨ atB (ownS q i) (one i p w n q c).there = true) : LkL (one i p w n q c) [] := by
  by_cases g : (one i p w n q c).goal = p
  · exact .inl ⟨g, rfl⟩
  · refine .inr ⟨g, [n], sh_one s, ?_⟩
    have e1 : (one i p w n q c).lv n = leaveB i q c := by
      unfold Hd.lv one
      rw [look_one1]
    have e2 : (one i p w n q c).ou n = !atB (ownS q i) (one i p w n q c).there := by
      rw [← outB_at]
      unfold Hd.ou one
      rw [look_one1]
    rcases h.resolve_left g with h | h
    · rw [List.filter_cons_of_neg (by rw [e1, h]; decide)]
      rfl
    · cases hl : leaveB i q c with
      | true =>
        rw [List.filter_cons_of_neg (by rw [e1, hl]; decide)]
        rfl
      | false =>
        rw [List.filter_cons_of_pos (by rw [e1, hl]; rfl), List.filter_nil, List.filter_cons_of_neg (by rw [e2, h]; decide)]
        rfl
theorem lk_one (s : shrd q = true) (g : (one i p w n q c).goal ≠ p) (l : leaveB i q c = false) (a : atB (ownS q i) (one i p w n q c).there = false) : LkL (one i p w n q c) [n] := by
  refine .inr ⟨g, [n], sh_one s, ?_⟩
  have e1 : (one i p w n q c).lv n = leaveB i q c := by
    unfold Hd.lv one
    rw [look_one1]
  have e2 : (one i p w n q c).ou n = !atB (ownS q i) (one i p w n q c).there := by
    rw [← outB_at]
    unfold Hd.ou one
    rw [look_one1]
  rw [List.filter_cons_of_pos (by rw [e1, l]; rfl), List.filter_nil, List.filter_cons_of_pos (by rw [e2, a]; rfl), List.filter_nil]
theorem bt_of (s : shrd q = true) (hw : w ≠ none) {ys : List Int} (h : LkL (one i p w n q c) ys) : BtL (one i p w n q c) ((one i p w n q c).asks ys ++ [(((othT q i : Nat) : Int), (("word" : Str), [], w))]) := by
  refine ⟨ys, h, .inr ⟨hw, [n], [((othT q i : Nat) : Int)], sh_one s, List.pairwise_singleton _ _, fun k => ?_, rfl⟩⟩
  have : (one i p w n q c).othN n = (othT q i : Nat) := by
    unfold Hd.othN one
    rw [look_one1]
  rw [List.map_singleton, this]
theorem asks_one : (one i p w n q c).asks [n] = [(((othT q i : Nat) : Int), (("ask" : Str), [n, c], w))] := by
  unfold Hd.asks
  rw [List.map_singleton]
  have e1 : (one i p w n q c).othN n = (othT q i : Nat) := by
    unfold Hd.othN one
    rw [look_one1]
  have e2 : (one i p w n q c).cntN n = c := by
    unfold Hd.cntN one
    rw [look_one1]
  rw [e1, e2]
  rfl
end
end K64

set_option Elab.async false
set_option linter.all false
set_option maxRecDepth 100000
namespace K64
open PySem PySem.Spec PyProof.Rows L2 NB

/-! ### two hands that share a rule -/
theorem new_at {H : Hp} {X : Addr} {o : HO} (_ : H X = none) : (upd H X o) X = some o := upd_same
def RA (pl : Int) : Rl := ((0, false, pl), (1, true, pl))
theorem sRA (pl : Int) : shrd (RA pl) = true := rfl
theorem lvA (pl c : Int) : leaveB 0 (RA pl) c = decide (c % 2 = 0) := by
  unfold leaveB RA
  simp
theorem lvB (pl c : Int) : leaveB 1 (RA pl) c = !decide (c % 2 = 0) := by
  unfold leaveB RA
  cases decide (c % 2 = 0) <;> rfl
theorem atA (pl x : Int) : atB (ownS (RA pl) 0) x = decide (x ≤ pl) := rfl
theorem atB1 (pl x : Int) : atB (ownS (RA pl) 1) x = decide (pl ≤ x) := rfl
abbrev hA (pl p : Int) (w : Option Wi) (c : Int) : Hd := one 0 p w 0 (RA pl) c
abbrev hB (pl p : Int) (w : Option Wi) (c : Int) : Hd := one 1 p w 0 (RA pl) c
def Wd (a : Str) : Prop := a = "ask" ∨ a = "leave" ∨ a = "word"
theorem wd_ok {a : Str} (h : Wd a) : PyData.strOk a = true := by
  rcases h with rfl | rfl | rfl <;> decide +kernel
def BW : List Bt → Prop
  | [] => True
  | b :: bs => Wd b.2.1 ∧ BW bs
theorem lay_ltD (l : Lt) (hw : Wd l.1) : PyData.canLay0 (ltD l) = true ∧ PyData.depth (ltD l) ≤ 3 := by
  have h1 : ∀ xs : List Int, PyData.canLayAll0 (xs.map PyData.int) = true ∧ PyData.depthAll (xs.map PyData.int) = 0 := fun xs => by
    induction xs with
    | nil => exact ⟨rfl, rfl⟩
    | cons x xs ih =>
      rw [List.map_cons]
      simp only [PyData.canLayAll0, PyData.canLay0, PyData.depthAll, PyData.depth, ih.1, ih.2, Bool.and_self]
      exact ⟨trivial, rfl⟩
  have h2 : PyData.canLay0 (wiD l.2.2) = true ∧ PyData.depth (wiD l.2.2) ≤ 2 := by
    cases l.2.2 with
    | none => exact ⟨rfl, Nat.zero_le _⟩
    | some w =>
      unfold wiD
      simp only [PyData.canLayAll0, PyData.canLay0, PyData.depthAll, PyData.depth, (h1 w.2).1, (h1 w.2).2, Bool.and_self]
      exact ⟨trivial, by omega⟩
  have h3 : ∀ (ds : List PyData) (d : PyData), PyData.canLayAll0 ds = true → PyData.depthAll ds = 0 → PyData.canLay0 d = true → PyData.canLayAll0 (ds ++ [d]) = true ∧ PyData.depthAll (ds ++ [d]) ≤ PyData.depth d := fun ds d a b c => by
    induction ds with
    | nil =>
      show PyData.canLayAll0 [d] = true ∧ PyData.depthAll [d] ≤ _
      simp only [PyData.canLayAll0, PyData.depthAll, c, Bool.and_self]
      exact ⟨trivial, by omega⟩
    | cons x xs ih =>
      rw [List.cons_append]
      simp only [PyData.canLayAll0, PyData.depthAll, Bool.and_eq_true] at a b ⊢
      obtain ⟨i1, i2⟩ := ih a.2 (by omega)
      exact ⟨⟨a.1, i1⟩, by omega⟩
  have h4 := h3 (.str l.1 :: l.2.1.map PyData.int) (wiD l.2.2) (by simp only [PyData.canLayAll0, PyData.canLay0, (h1 l.2.1).1, wd_ok hw, Bool.and_self]) (by simp only [PyData.depthAll, PyData.depth, (h1 l.2.1).2]; rfl) h2.1
  unfold ltD
  simp only [PyData.canLay0, PyData.depth]
  exact ⟨h4.1, by omega⟩
theorem lay_bt (b : Bt) (hw : Wd b.2.1) : PyData.canLay0 (btD b) = true ∧ PyData.depth (btD b) ≤ 4 := by
  obtain ⟨h1, h2⟩ := lay_ltD b.2 hw
  unfold btD
  simp only [PyData.canLayAll0, PyData.canLay0, PyData.depthAll, PyData.depth, h1, Bool.and_self]
  exact ⟨trivial, by omega⟩
theorem lay_bts (bs : List Bt) (hw : BW bs) : PyData.canLay0 (.tuple (bs.map btD)) = true ∧ PyData.depth (.tuple (bs.map btD)) ≤ 5 := by
  have : PyData.canLayAll0 (bs.map btD) = true ∧ PyData.depthAll (bs.map btD) ≤ 4 := by
    induction bs with
    | nil => exact ⟨rfl, Nat.zero_le _⟩
    | cons b bs ih =>
      rw [List.map_cons]
      have ih := ih hw.2
      obtain ⟨h1, h2⟩ := lay_bt b hw.1
      simp only [PyData.canLayAll0, PyData.depthAll, h1, ih.1, Bool.and_self]
      exact ⟨trivial, by omega⟩
  simp only [PyData.canLay0, PyData.depth]
  exact ⟨this.1, by omega⟩
theorem sh_of {d : PyData} {n : Nat} (h : PyData.canLay0 d = true ∧ PyData.depth d ≤ n) (hn : n ≤ 64) : SeqAt.shaped d = true := by
  unfold SeqAt.shaped
  rw [Bool.and_eq_true, decide_eq_true_eq]
  exact ⟨h.1, by omega⟩
theorem shb (bs : List Bt) (hw : BW bs) : SeqAt.shaped (.tuple (bs.map btD)) = true := sh_of (lay_bts bs hw) (by decide)
theorem sh1 (b : Bt) (hw : Wd b.2.1) : SeqAt.shaped (btD b) = true := sh_of (lay_bt b hw) (by decide)
theorem nqb (bs : List Bt) (hw : BW bs) : V.bl (!PyData.eqv (.tuple (bs.map btD)) (.tuple (bs.map btD))) = .bl false := by rw [SeqAt.eqv_refl _ (lay_bts bs hw).1]; rfl
theorem nq1 (b : Bt) (hw : Wd b.2.1) : V.bl (!PyData.eqv (btD b) (btD b)) = .bl false := by rw [SeqAt.eqv_refl _ (lay_bt b hw).1]; rfl
theorem eqb (bs : List Bt) (hw : BW bs) : V.bl (PyData.eqv (.tuple (bs.map btD)) (.tuple (bs.map btD))) = .bl true := by rw [SeqAt.eqv_refl _ (lay_bts bs hw).1]
theorem nqd {d : PyData} (h : PyData.canLay0 d = true) : V.bl (!PyData.eqv d d) = .bl false := by rw [SeqAt.eqv_refl _ h]; rfl
theorem dp_pr {K : PySem.W.Frag} {H : Hp} {a : Addr} {b : Bt} (h : PrAt H a b) : Dp K H (.ref a) (btD b) := by
  obtain ⟨l, e, g⟩ := h
  exact .tup (.inl (.inl e)) (.cons (.int _) (.cons (dp_let g) .nil))
theorem ltp2 {a : Str} {n k : Int} {o : Option Wi} (ha : a = "ask" ∨ a = "leave") (hn : 0 ≤ n ∧ n < 10 ^ 30) (hk : 0 ≤ k ∧ k < 10 ^ 30) (ho : ∀ w, o = some w → WiP w) : LetP (a, [n, k], o) := ⟨.inl ⟨ha, rfl⟩, (fun y hy => by
  rcases List.mem_cons.mp hy with rfl | hy
  · exact hn
  · rw [List.mem_singleton.mp hy]
    exact hk), ho⟩
theorem ltp0 {w : Wi} (hw : WiP w) : LetP ("word", [], some w) := ⟨.inr ⟨rfl, rfl, fun z => by cases z⟩, (fun y hy => absurd hy List.not_mem_nil), fun w' e => by cases e; exact hw⟩
theorem wip {n a b : Int} (hn : 1 ≤ n ∧ n < 10 ^ 30) (ha : 0 ≤ a ∧ a < 10 ^ 30) (hb : 0 ≤ b ∧ b < 10 ^ 30) : WiP (n, [a, b]) := ⟨hn.1, hn.2, by simp, (show 2 ≤ 12 by decide), fun y hy => by
  rcases List.mem_cons.mp hy with rfl | hy
  · exact ha
  · rw [List.mem_singleton.mp hy]
    exact hb⟩
theorem pr_in {H : Hp} {g : Addr} {b : Bt} {bs : List Bt} (h : BAt H g (b :: bs)) : ∃ P as, H g = some (.tup (.ref P :: as)) ∧ PrAt H P b := by
  obtain ⟨as, e, k⟩ := h
  match as, k, e with
  | P :: as, k, e => exact ⟨P, as.map V.ref, e, k.1⟩
  | [], k, _ => exact k.elim
theorem lay_wi (o : Option Wi) : PyData.canLay0 (wiD o) = true ∧ PyData.depth (wiD o) ≤ 2 := by
  have h1 : ∀ xs : List Int, PyData.canLayAll0 (xs.map PyData.int) = true ∧ PyData.depthAll (xs.map PyData.int) = 0 := fun xs => by
    induction xs with
    | nil => exact ⟨rfl, rfl⟩
    | cons x xs ih =>
      rw [List.map_cons]
      simp only [PyData.canLayAll0, PyData.canLay0, PyData.depthAll, PyData.depth, ih.1, ih.2, Bool.and_self]
      exact ⟨trivial, rfl⟩
  cases o with
  | none => exact ⟨rfl, Nat.zero_le _⟩
  | some w =>
    unfold wiD
    simp only [PyData.canLayAll0, PyData.canLay0, PyData.depthAll, PyData.depth, (h1 w.2).1, (h1 w.2).2, Bool.and_self]
    exact ⟨trivial, by omega⟩
theorem shw (o : Option Wi) : SeqAt.shaped (wiD o) = true := sh_of (lay_wi o) (by decide)
theorem eqw (o : Option Wi) : PyData.eqv (wiD o) (wiD o) = true := SeqAt.eqv_refl _ (lay_wi o).1
theorem nqw (o : Option Wi) : V.bl (!PyData.eqv (wiD o) (wiD o)) = .bl false := by rw [eqw]; rfl
theorem cut_bat {K : PySem.W.Frag} {H : Hp} {g : Addr} {b : Bt} {Q : VK} (h : BAt H g [b]) (q : ∀ g' H', Same H H' → BAt H' g' [] → Q (.ref g') H') : rSlA K (.ref g) none (some (-1)) H Q := by
  obtain ⟨as, e, k⟩ := h
  match as, k, e with
  | [P], _, e =>
  have e1 : HT.sIx 1 1 (some (-1)) = 0 := by decide
  refine ⟨g, [.ref P], rfl, .inl (.inl e), fun w => ?_, fun _ p np => ?_⟩
  · have := w.2
    rw [show ([V.ref P] : List V).length = 1 from rfl, e1] at this
    cases this
  · refine q p _ (same_new np) ⟨[], ?_, trivial⟩
    rw [upd_same]
    rfl
structure Two (C : Addr) (H0 H : Hp) (x D T y E F : Addr) (h g : Hd) : Prop where
  a : HandAt C H x D T h
  u : ∃ kvs, H D = some (.dK kvs)
  b : HandAt C H y E F g
  v : ∃ kvs, H E = some (.dK kvs)
  nDT : D ≠ T
  nEF : E ≠ F
  nxy : x ≠ y
  nTE : T ≠ E
  nTF : T ≠ F
  nDF : D ≠ F
  n1 : H0 x = none
  n2 : H0 T = none
  n3 : H0 y = none
  n4 : H0 F = none
  n5 : H0 D = none
  fr : Same H0 H
theorem HandAt.in {C : Addr} {H : Hp} {x D T : Addr} {h : Hd} (a : HandAt C H x D T h) : ∃ dx v, H x = some (.ins C dx [("thing", .int (h.thing : Int)), ("place", .int h.place), ("wish", v), ("held", .ref D), ("tally", .ref T)]) ∧ WV H v h.wish := by
  obtain ⟨dx, v, hs, e, w, _⟩ := a
  exact ⟨dx, v, e, w⟩
theorem HandAt.tt {C : Addr} {H : Hp} {x D T : Addr} {h : Hd} (a : HandAt C H x D T h) : ∃ kvs, H T = some (.dK kvs) := by
  obtain ⟨dx, v, hs, _, _, _, e, _⟩ := a
  exact ⟨_, e⟩
theorem HandAt.far {C : Addr} {H H' : Hp} {x D T y F : Addr} {h : Hd} (a : HandAt C H x D T h) (b : ButH y F H H') (nx : x ≠ y) (nD : D ≠ F) (nT : T ≠ F) {dy : Addr} {fs : List (Str × V)} (ey : H y = some (.ins C dy fs)) {kvs : List (Key × V)} (eF : H F = some (.dK kvs)) : HandAt C H' x D T h := by
  obtain ⟨dx, v, hs, e, w, d, t, l⟩ := a
  have e' : H x = some (.ins C dx _) := e
  have tk : TupK H H' := fun c xs ec => b _ _ (fun z => by rw [z, ey] at ec; cases ec) (fun z => by rw [z, eF] at ec; cases ec) ec
  have nxF : x ≠ F := fun z => by rw [z, eF] at e'; cases e'
  have nTy : T ≠ y := fun z => by rw [z, ey] at t; cases t
  refine ⟨dx, v, hs, b _ _ nx nxF e', w.tk tk, ?_, b _ _ nTy nT t, l.tk tk⟩
  rcases d with d | ⟨od, d⟩
  · exact .inl (b _ _ (fun z => by rw [z, ey] at d; cases d) nD d)
  · exact .inr ⟨od, b _ _ (fun z => by rw [z, ey] at d; cases d) nD d⟩
section
variable {C : Addr} {H0 H H' : Hp} {x D T y E F : Addr} {h g : Hd}
theorem Two.same (t : Two C H0 H x D T y E F h g) (s : Same H H') : Two C H0 H' x D T y E F h g := by
  obtain ⟨kd, ud⟩ := t.u
  obtain ⟨ke, ue⟩ := t.v
  exact ⟨t.a.same s, ⟨kd, s _ _ ud⟩, t.b.same s, ⟨ke, s _ _ ue⟩, t.nDT, t.nEF, t.nxy, t.nTE, t.nTF, t.nDF, t.n1, t.n2, t.n3, t.n4, t.n5, t.fr.trans s⟩
theorem Two.left (t : Two C H0 H x D T y E F h g) (b : ButH x T H H') {h' : Hd} (a : HandAt C H' x D T h') : Two C H0 H' x D T y E F h' g := by
  obtain ⟨kd, ud⟩ := t.u
  obtain ⟨ke, ue⟩ := t.v
  obtain ⟨dx, v, ex, _⟩ := t.a.in
  obtain ⟨kt, et⟩ := t.a.tt
  exact ⟨a, ⟨kd, b _ _ (fun z => by rw [z, ex] at ud; cases ud) t.nDT ud⟩, t.b.far b t.nxy.symm t.nTE.symm t.nTF.symm ex et, ⟨ke, b _ _ (fun z => by rw [z, ex] at ue; cases ue) t.nTE.symm ue⟩, t.nDT, t.nEF, t.nxy, t.nTE, t.nTF, t.nDF, t.n1, t.n2, t.n3, t.n4, t.n5, fun c o e => b _ _ (ne_of_none e t.n1) (ne_of_none e t.n2) (t.fr _ _ e)⟩
theorem Two.right (t : Two C H0 H x D T y E F h g) (b : ButH y F H H') {g' : Hd} (a : HandAt C H' y E F g') : Two C H0 H' x D T y E F h g' := by
  obtain ⟨kd, ud⟩ := t.u
  obtain ⟨ke, ue⟩ := t.v
  obtain ⟨dy, v, ey, _⟩ := t.b.in
  obtain ⟨kf, ef⟩ := t.b.tt
  exact ⟨t.a.far b t.nxy t.nDF t.nTF ey ef, ⟨kd, b _ _ (fun z => by rw [z, ey] at ud; cases ud) t.nDF ud⟩, a, ⟨ke, b _ _ (fun z => by rw [z, ey] at ue; cases ue) t.nEF ue⟩, t.nDT, t.nEF, t.nxy, t.nTE, t.nTF, t.nDF, t.n1, t.n2, t.n3, t.n4, t.n5, fun c o e => b _ _ (ne_of_none e t.n3) (ne_of_none e t.n4) (t.fr _ _ e)⟩
end
structure One (C : Addr) (H0 H : Hp) (x D T : Addr) (h : Hd) : Prop where
  a : HandAt C H x D T h
  u : ∃ kvs, H D = some (.dK kvs)
  nDT : D ≠ T
  n1 : H0 x = none
  n2 : H0 T = none
  n5 : H0 D = none
  fr : Same H0 H
section
variable {C : Addr} {H0 H H' : Hp} {x D T y E F : Addr} {h g : Hd}
theorem Two.one (t : Two C H0 H x D T y E F h g) : One C H0 H x D T h := ⟨t.a, t.u, t.nDT, t.n1, t.n2, t.n5, t.fr⟩
theorem One.same (t : One C H0 H x D T h) (s : Same H H') : One C H0 H' x D T h := by
  obtain ⟨kd, ud⟩ := t.u
  exact ⟨t.a.same s, ⟨kd, s _ _ ud⟩, t.nDT, t.n1, t.n2, t.n5, t.fr.trans s⟩
theorem One.left (t : One C H0 H x D T h) (b : ButH x T H H') {h' : Hd} (a : HandAt C H' x D T h') : One C H0 H' x D T h' := by
  obtain ⟨kd, ud⟩ := t.u
  obtain ⟨dx, v, ex, _⟩ := t.a.in
  exact ⟨a, ⟨kd, b _ _ (fun z => by rw [z, ex] at ud; cases ud) t.nDT ud⟩, t.nDT, t.n1, t.n2, t.n5, fun c o e => b _ _ (ne_of_none e t.n1) (ne_of_none e t.n2) (t.fr _ _ e)⟩
theorem One.dp (t : One C H0 H x D T h) (f : ∀ b o, b ≠ D → b ≠ T → H b = some o → H' b = some o) {h' : Hd} (a : HandAt C H' x D T h') (u : ∃ kvs, H' D = some (.dK kvs)) : One C H0 H' x D T h' := ⟨a, u, t.nDT, t.n1, t.n2, t.n5, fun c o e => f _ _ (ne_of_none e t.n5) (ne_of_none e t.n2) (t.fr _ _ e)⟩
theorem One.tk (t : One C H0 H x D T h) (f : ∀ b o, b ≠ D → b ≠ T → H b = some o → H' b = some o) : TupK H H' := fun b xs e => by
  obtain ⟨kd, ud⟩ := t.u
  obtain ⟨kt, ut⟩ := t.a.tt
  exact f _ _ (fun z => by rw [z, ud] at e; cases e) (fun z => by rw [z, ut] at e; cases e) e
end
def spTwo (C : Addr) : Sp := fun vs H Q _ => ∃ pl : Int, vs = [.int pl] ∧ ∀ H' G r x D T y E F, H' G = some (.tup [.ref x, .ref y, .ref r]) → RuleAt H' r (RA pl) → Two C H H' x D T y E F (hA pl 0 none 1) (hB pl 0 none 1) → Q (.ref G) H'
section
variable {P : Program} {w : World} {K : PySem.W.Frag} {mg : Str → Option Value} {base : Heap}
abbrev a__law_two : Stmt := topS 22
abbrev n__law_two : List Str := ["_law_place", "_law_rule"]
theorem sc__law_two : FnScope n__law_two ["_law_place"] (defScope a__law_two) := ⟨rfl, rfl, rfl, by decide +kernel, rfl, by decide +kernel, by decide +kernel⟩
set_option maxHeartbeats 8000000 in
theorem ok__law_two {f  : Addr} {fd  : FuncData} {k : Nat} {C f0 : Addr} {fd0 : FuncData} (F : Fun K "_law_two" "_law_two" a__law_two f fd)  (X : HandTxt K C) (M : Mk K C f0) (GI : FnOk P w K mg base CX0 1 f0 fd0 ["self", "thing", "place", "rules"] (spHInit C)) (bI : Binds K fd0 ["self", "thing", "place", "rules"] []) (mgC : mg "Hand" = some (.ref C))  : FnOk P w K mg base CX0 (k + 3) f fd ["_law_place"] (spTwo C) := by
  refine F.ok sc__law_two (fun vs H Q E h => ?_) (fun cdv A outer s H vs Q E hr h => ?_)
  · obtain ⟨pl, rfl, _⟩ := h
    rfl
  · obtain ⟨pl, rfl, q⟩ := h
    refine ⟨_, (pss_cons (ps_set (i := 1) sc__law_two.nd rfl (.inl rfl) (pe_tup (pa_cons (pe_tup (pa_cons pe_int (pa_cons pe_str (pa_cons (pv 0) pa_nil)))) (pa_cons (pe_tup (pa_cons pe_int (pa_cons pe_str (pa_cons (pv 0) pa_nil)))) pa_nil))))
      (pss_one (ps_ret (pe_tup (pa_cons (pe_make M GI (hr.mono (by omega)) (by rfl) mgC bI .nil pass0 (pa_cons pe_int (pa_cons pe_int (pa_cons (pe_tup (pa_cons (pe_tup (pa_cons pe_int (pa_cons (pv 1) (pa_cons pe_int pa_nil)))) pa_nil)) pa_nil)))) (pa_cons (pe_make M GI (hr.mono (by omega)) (by rfl) mgC bI .nil pass0 (pa_cons pe_int (pa_cons pe_int (pa_cons (pe_tup (pa_cons (pe_tup (pa_cons pe_int (pa_cons (pv 1) (pa_cons pe_int pa_nil)))) pa_nil)) pa_nil)))) (pa_cons (pv 1) pa_nil))))))), ?_⟩
    refine ⟨_, rfl, (show 3 ≤ sizeLine by decide), fun p1 n1 => ⟨_, rfl, (show 3 ≤ sizeLine by decide), fun p2 n2 => ⟨(show 2 ≤ sizeLine by decide), fun r nr => ?_⟩⟩⟩
    have s1 := same_new (o := HO.tup [V.int 0, .str "to", .int pl]) n1
    have s2 := same_new (o := HO.tup [V.int 1, .str "from", .int pl]) n2
    have s3 := same_new (o := HO.tup [V.ref p1, .ref p2]) nr
    have e1 := new_at (o := HO.tup [V.int 0, .str "to", .int pl]) n1
    have e2 := new_at (o := HO.tup [V.int 1, .str "from", .int pl]) n2
    have e3 := new_at (o := HO.tup [V.ref p1, .ref p2]) nr
    have rA : RuleAt _ r (RA pl) := ⟨p1, p2, e3, (s2.trans s3) _ _ e1, s3 _ _ e2⟩
    have s03 := (s1.trans s2).trans s3
    clear e1 e2 e3
    generalize upd (upd (upd H p1 (HO.tup [V.int 0, .str "to", .int pl])) p2 (HO.tup [V.int 1, .str "from", .int pl])) r (HO.tup [V.ref p1, .ref p2]) = H1 at rA s03 ⊢
    dsimp only [List.set]
    have mk : ∀ {I : Hp} {W G : Addr} (i : Nat), I W = some (.tup [V.int 0, .ref r, .int 1]) → I G = some (.tup [V.ref W]) → RuleAt I r (RA pl) → RwAt I G [(0, RA pl, 1)] [(0, r)] := fun {I W G} i eW eG rI => ⟨[W], eG, rfl, rfl, fun j a rr z h1 h2 h3 => by
      match j, h1, h2, h3 with
      | 0, h1, h2, h3 =>
        cases h1
        cases h2
        cases h3
        exact ⟨rfl, eW, rI⟩⟩
    refine ⟨_, rfl, (show 3 ≤ sizeLine by decide), fun W1 nW1 => ⟨(show 1 ≤ sizeLine by decide), fun G1 nG1 => ?_⟩⟩
    have s4 := same_new (o := HO.tup [V.int 0, .ref r, .int 1]) nW1
    have e4 := new_at (o := HO.tup [V.int 0, .ref r, .int 1]) nW1
    have s5 := same_new (o := HO.tup [V.ref W1]) nG1
    have e5 := new_at (o := HO.tup [V.ref W1]) nG1
    have s45 := s4.trans s5
    have rw1 := mk 0 (s5 _ _ e4) e5 (rA.keep (.same s45))
    have s05 := s03.trans s45
    have r5 := rA.keep (.same s45)
    clear e4 e5
    generalize upd (upd H1 W1 (HO.tup [V.int 0, .ref r, .int 1])) G1 (HO.tup [V.ref W1]) = H2 at s05 rw1 r5 ⊢
    refine fun x dx nx ndx ne => ?_
    have x1 : Same H2 (upd (upd H2 dx (.own x)) x (.ins C dx [])) := (same_new ndx).trans (same_new (by rw [upd_ne ne.symm]; exact nx))
    have free1 : ∀ b, b ≠ x → b ≠ dx → (upd (upd H2 dx (.own x)) x (.ins C dx [])) b = none → H2 b = none := fun b h1 h2 e => by rwa [upd_ne h1, upd_ne h2] at e
    have fr0 : ∀ {I : Hp} {J : Hp} {b : Addr}, Same I J → J b = none → I b = none := fun {I J b} s e => by
      cases hq : I b with
      | none => rfl
      | some o => rw [s _ _ hq] at e; cases e
    refine ⟨x, dx, G1, 0, 0, [(0, RA pl, 1)], [(0, r)], rfl, upd_same, by
      obtain ⟨as, q1, q2, q3, q4⟩ := rw1
      exact ⟨as, x1 _ _ q1, q2, q3, fun i a rr z h1 h2 h3 => ⟨(q4 i a rr z h1 h2 h3).1, x1 _ _ (q4 i a rr z h1 h2 h3).2.1, (q4 i a rr z h1 h2 h3).2.2.keep (.same x1)⟩⟩, by simp, (show 1 ≤ 40 by decide), fun H3 D T k3 aA nDT nD nT uD => ⟨rfl, ?_⟩⟩
    have s23 : Same H2 H3 := fun b o e => k3 b o (ne_of_none e nx) (x1 b o e)
    have nDx : D ≠ x := fun z => by rw [z, upd_same] at nD; cases nD
    have nDd : D ≠ dx := fun z => by rw [z, upd_ne ne, upd_same] at nD; cases nD
    have nTx : T ≠ x := fun z => by rw [z, upd_same] at nT; cases nT
    have nTd : T ≠ dx := fun z => by rw [z, upd_ne ne, upd_same] at nT; cases nT
    have nxH := fr0 s05 nx
    have nTH := fr0 s05 (free1 _ nTx nTd nT)
    have nDH := fr0 s05 (free1 _ nDx nDd nD)
    have r6 := r5.keep (.same s23)
    refine ⟨_, rfl, (show 3 ≤ sizeLine by decide), fun W2 nW2 => ⟨(show 1 ≤ sizeLine by decide), fun G2 nG2 => ?_⟩⟩
    have s6 := same_new (o := HO.tup [V.int 0, .ref r, .int 1]) nW2
    have e6 := new_at (o := HO.tup [V.int 0, .ref r, .int 1]) nW2
    have s7 := same_new (o := HO.tup [V.ref W2]) nG2
    have e7 := new_at (o := HO.tup [V.ref W2]) nG2
    have s67 := s6.trans s7
    have rw2 := mk 1 (s7 _ _ e6) e7 (r6.keep (.same s67))
    have aA7 := aA.same s67
    have r7 := r6.keep (.same s67)
    have s07 := (s05.trans s23).trans s67
    obtain ⟨kd, ud⟩ := uD
    have ud7 := s67 _ _ ud
    clear e6 e7
    generalize upd (upd H3 W2 (HO.tup [V.int 0, .ref r, .int 1])) G2 (HO.tup [V.ref W2]) = H4 at s07 rw2 r7 aA7 ud7 ⊢
    refine fun y dy ny ndy ney => ?_
    have y1 : Same H4 (upd (upd H4 dy (.own y)) y (.ins C dy [])) := (same_new ndy).trans (same_new (by rw [upd_ne ney.symm]; exact ny))
    have free2 : ∀ b, b ≠ y → b ≠ dy → (upd (upd H4 dy (.own y)) y (.ins C dy [])) b = none → H4 b = none := fun b h1 h2 e => by rwa [upd_ne h1, upd_ne h2] at e
    refine ⟨y, dy, G2, 1, 0, [(0, RA pl, 1)], [(0, r)], rfl, upd_same, by
      obtain ⟨as, q1, q2, q3, q4⟩ := rw2
      exact ⟨as, y1 _ _ q1, q2, q3, fun i a rr z h1 h2 h3 => ⟨(q4 i a rr z h1 h2 h3).1, y1 _ _ (q4 i a rr z h1 h2 h3).2.1, (q4 i a rr z h1 h2 h3).2.2.keep (.same y1)⟩⟩, by simp, (show 1 ≤ 40 by decide), fun H5 E F k5 aB nEF nE nF uE => ⟨rfl, _, rfl, (show 3 ≤ sizeLine by decide), fun G nG => ?_⟩⟩
    have s45' : Same H4 H5 := fun b o e => k5 b o (ne_of_none e ny) (y1 b o e)
    have nEy : E ≠ y := fun z => by rw [z, upd_same] at nE; cases nE
    have nFy : F ≠ y := fun z => by rw [z, upd_same] at nF; cases nF
    have nEd : E ≠ dy := fun z => by rw [z, upd_ne ney, upd_same] at nE; cases nE
    have nFd : F ≠ dy := fun z => by rw [z, upd_ne ney, upd_same] at nF; cases nF
    have nE4 := free2 _ nEy nEd nE
    have nF4 := free2 _ nFy nFd nF
    have sG := same_new (o := HO.tup [V.ref x, .ref y, .ref r]) nG
    have s5G := s45'.trans sG
    obtain ⟨ke, ue⟩ := uE
    obtain ⟨dxx, vx, ex, _⟩ := aA7.in
    obtain ⟨kt, et⟩ := aA7.tt
    exact q _ G r x D T y E F upd_same (r7.keep (.same s5G)) ⟨aA7.same s5G, ⟨kd, s5G _ _ ud7⟩, aB.same sG, ⟨ke, sG _ _ ue⟩, nDT, nEF, ne_of_none ex ny, ne_of_none et nE4, ne_of_none et nF4, ne_of_none ud7 nF4, nxH, nTH, fr0 s07 ny, fr0 s07 nF4, nDH, s07.trans s5G⟩
end
end K64

set_option Elab.async false
set_option linter.all false
set_option maxRecDepth 100000
namespace K64
open PySem PySem.Spec PyProof.Rows L2 NB

/-! ### histories -/
def spHist (C : Addr) : Sp := fun vs H Q _ => ∃ pl nu : Int, vs = [.int pl, .int nu] ∧ 1 ≤ pl ∧ pl ≤ 10 ^ 29 ∧ 1 ≤ nu ∧ nu ≤ 10 ^ 29 ∧ ∀ H', Same H H' → Q (.bl true) H'
section
variable {P : Program} {w : World} {K : PySem.W.Frag} {mg : Str → Option Value} {base : Heap}
abbrev a__law_elder_ask : Stmt := topS 25
abbrev n__law_elder_ask : List Str := ["_law_place", "_law_number", "_law_one", "_law_two_here", "_law_rule", "_law_wish", "_law_same"]
theorem sc__law_elder_ask : FnScope n__law_elder_ask ["_law_place", "_law_number"] (defScope a__law_elder_ask) := ⟨rfl, rfl, rfl, by decide +kernel, rfl, by decide +kernel, by decide +kernel⟩
set_option maxHeartbeats 8000000 in
theorem ok__law_elder_ask {f fTw : Addr} {fd fdTw : FuncData} {k : Nat} {C : Addr} (F : Fun K "_law_elder_ask" "_law_elder_ask" a__law_elder_ask f fd) (Tw : Kn P w K mg base 3 "_law_two" ["_law_place"] (spTwo C) fTw fdTw) (Hh : C8.Met P w K mg base 7 C "hear" (spHear C) []) (St1 : C8.Met P w K mg base 8 C "stride" (spStride C) []) (Hc : C8.Met P w K mg base 4 C "count_of" (spCount C) []) (Hv : C8.Met P w K mg base 5 C "has_leave" (spLeave C) []) (Hl : C8.Met P w K mg base 6 C "lacks" (spLkL C) []) (Hb : C8.Met P w K mg base 7 C "beat" (spBeat C) []) (X : HandTxt K C)  : FnOk P w K mg base CX0 (k + 9) f fd ["_law_place", "_law_number"] (spHist C) := by
  refine F.ok sc__law_elder_ask (fun vs H Q E h => ?_) (fun cdv A outer s H vs Q E hr h => ?_)
  · obtain ⟨pl, nu, rfl, _⟩ := h
    rfl
  · obtain ⟨pl, nu, rfl, hp1, hp2, hn1, hn2, q⟩ := h
    refine ⟨_, (pss_cons (ps_asg (pe_kn Tw hr (by omega) (pa_cons (pv 0) pa_nil)) (pg_tup rfl (pgs_cons (pg_name (i := 2) sc__law_elder_ask.nd rfl (.inl rfl)) (pgs_cons (pg_name (i := 3) sc__law_elder_ask.nd rfl (.inl rfl)) (pgs_cons (pg_name (i := 4) sc__law_elder_ask.nd rfl (.inl rfl)) pgs_nil)))))
      (pss_cons (ps_set (i := 5) sc__law_elder_ask.nd rfl (.inl rfl) (pe_tup (pa_cons (pe_op op_add (pv 1) pe_int) (pa_cons (pe_tup (pa_cons (pv 0) (pa_cons (pe_op op_mul pe_int (pv 0)) pa_nil))) pa_nil))))
      (pss_cons (ps_expr (C8.pe_mt Hh hr (by omega) (pv 3) (pa_cons (pe_tup (pa_cons pe_str (pa_cons (pv 5) pa_nil))) pa_nil)))
      (pss_cons (ps_expr (C8.pe_mt0 St1 hr (by omega) (pv 3)))
      (pss_cons (ps_if (PW.pt (pw_or (pt_cmpR (op_neD hr.units) (C8.pe_mt Hh hr (by omega) (pv 3) (pa_cons (pe_tup (pa_cons pe_str (pa_cons pe_int (pa_cons pe_int (pa_cons (pe_tup (pa_cons (pv 1) (pa_cons (pe_tup (pa_cons (pe_op op_mul pe_int (pv 0)) (pa_cons (pv 0) pa_nil))) pa_nil))) pa_nil))))) pa_nil)) (pe_tup pa_nil) (nomark _)) (pw_or1 (pt_cmpR (op_neD hr.units) (C8.pe_mt Hh hr (by omega) (pv 3) (pa_cons (pe_tup (pa_cons pe_str (pa_cons pe_int (pa_cons pe_int (pa_cons pe_non pa_nil))))) pa_nil)) (pe_tup pa_nil) (nomark _))))) (pss_one (ps_ret pe_bl)) pss_nil)
      (pss_cons (ps_if (PW.pt (pw_or (pt_cmpR (op_neD hr.units) (C8.pe_mt Hh hr (by omega) (pv 3) (pa_cons (pe_tup (pa_cons pe_str (pa_cons pe_int (pa_cons pe_int (pa_cons (pe_tup (pa_cons (pv 1) (pa_cons (pe_tup (pa_cons (pe_op op_mul pe_int (pv 0)) (pa_cons (pv 0) pa_nil))) pa_nil))) pa_nil))))) pa_nil)) (pe_tup pa_nil) (nomark _)) (pw_or1 (pt_cmpR op_ne (C8.pe_mt Hc hr (by omega) (pv 3) (pa_cons pe_int pa_nil)) pe_int (nomark _))))) (pss_one (ps_ret pe_bl)) pss_nil)
      (pss_cons (ps_set (i := 6) sc__law_elder_ask.nd rfl (.inl rfl) (pe_tup (pa_cons (pe_op op_add (pv 1) pe_int) (pa_cons (pe_tup (pa_cons pe_int (pa_cons pe_int pa_nil))) pa_nil))))
      (pss_one (ps_ret (pe_and (pe_cmpR (op_eqD hr.units) (C8.pe_mt Hh hr (by omega) (pv 3) (pa_cons (pe_tup (pa_cons pe_str (pa_cons pe_int (pa_cons pe_int (pa_cons (pv 6) pa_nil))))) pa_nil)) (pe_tup (pa_cons (pe_tup (pa_cons pe_int (pa_cons (pe_tup (pa_cons pe_str (pa_cons pe_int (pa_cons pe_int (pa_cons (pv 5) pa_nil))))) pa_nil))) pa_nil)) (nomark _)) (pe_one (pe_cmpR (op_eqD hr.units) (pe_fld (pv 3) rfl) (pv 5) (nomark _))))))))))))), ?_⟩
    refine ⟨_, rfl, pl, rfl, fun H1 G0 r x D T y E F eG0 rA tw => ⟨G0, _, rfl, .inl (.inl eG0), rfl, _, _, rfl, _, _, rfl, _, _, rfl, rfl, ?_⟩⟩
    try dsimp only [List.set]
    refine ⟨_, rfl, _, 1, rfl, rfl, _, rfl, _, rfl, 2, _, rfl, rfl, .inl ⟨by decide, by decide⟩, (show 2 ≤ sizeLine by decide), fun X0 nX0 => ?_⟩
    have sX0 := same_new (o := HO.tup [V.int pl, V.int (2 * pl)]) nX0
    have eX0 := new_at (o := HO.tup [V.int pl, V.int (2 * pl)]) nX0
    have tw := tw.same sX0
    refine ⟨(show 2 ≤ sizeLine by decide), fun X1 nX1 => ?_⟩
    have sX1 := same_new (o := HO.tup [V.int (nu + 1), V.ref X0]) nX1
    have eX1 := new_at (o := HO.tup [V.int (nu + 1), V.ref X0]) nX1
    have tw := tw.same sX1
    have eX0 := (tk_same sX1) _ _ eX0
    have wX1 : WV _ (.ref X1) (some ((nu + 1), [pl, (2 * pl)])) := ⟨X1, X0, rfl, eX1, eX0⟩
    have pX1 : WiP ((nu + 1), [pl, (2 * pl)]) := wip ⟨by omega, by omega⟩ ⟨by omega, by omega⟩ ⟨by omega, by omega⟩
    try dsimp only [List.set]
    obtain ⟨dx2, vx2, i2, _⟩ := tw.b.in
    refine ⟨.ref y, rfl, y, dx2, _, rfl, i2, lkm, _, rfl, (show 2 ≤ sizeLine by decide), fun X3 nX3 => ?_⟩
    have sX3 := same_new (o := HO.tup [V.str "word", V.ref X1]) nX3
    have eX3 := new_at (o := HO.tup [V.str "word", V.ref X1]) nX3
    have tw := tw.same sX3
    have wX1 := wX1.tk (tk_same sX3)
    have lX3 : LetAt _ X3 (("word", [], some ((nu + 1), [pl, (2 * pl)])) : Lt) := ⟨.ref X1, eX3, wX1⟩
    refine ⟨y, E, F, X3, (one 1 0 (none) 0 (RA pl) 1), (("word", [], some ((nu + 1), [pl, (2 * pl)])) : Lt), rfl, tw.b, tw.nEF, lX3, (ltp0 pX1), (fun w e => by cases e; exact (show 1 < 2 by decide)), (show 1 ≤ 40 by decide), fun H4 an4 bb4 ha4 bA4 => ?_⟩
    rw [hear_word (by show (0 : Int) < nu + 1; omega)] at ha4 bA4
    have ha4 : HandAt C _ y E F (one 1 0 (some ((nu + 1), [pl, (2 * pl)])) 0 (RA pl) 1) := ha4
    have bA4 : BAt _ an4 ([] : List Bt) := bA4
    have tk4 := bb4.tk tw.b
    have wX1 := wX1.tk (tk4)
    have lX3 := lX3.tk (tk4)
    have tw := tw.right bb4 ha4
    obtain ⟨dx5, vx5, i5, _⟩ := tw.b.in
    refine ⟨.ref y, rfl, y, dx5, _, rfl, i5, lkm, y, E, F, (one 1 0 (some ((nu + 1), [pl, (2 * pl)])) 0 (RA pl) 1), rfl, tw.b, tw.nEF, tw.v, (show 1 ≤ 40 by decide), (fun w e => by cases e; exact (show 1 < 2 by decide)), fun H6 q6 bb6 ha6 st6 => ?_⟩
    obtain rfl : (2 * pl) = q6 := (st6.uniq (st_goal (sRA pl) (fun z => by cases z) rfl (.inl (lvB pl 1)))).symm
    have ha6 : HandAt C _ y E F (one 1 (2 * pl) (some ((nu + 1), [pl, (2 * pl)])) 0 (RA pl) 1) := ha6
    have tk6 := bb6.tk tw.b
    have wX1 := wX1.tk (tk6)
    have lX3 := lX3.tk (tk6)
    have bA4 := bA4.tk (tk6)
    have tw := tw.right bb6 ha6
    obtain ⟨dx7, vx7, i7, _⟩ := tw.b.in
    refine ⟨.ref y, rfl, y, dx7, _, rfl, i7, lkm, _, rfl, _, rfl, 2, _, rfl, rfl, .inl ⟨by decide, by decide⟩, _, rfl, (show 2 ≤ sizeLine by decide), fun X8 nX8 => ?_⟩
    have sX8 := same_new (o := HO.tup [V.int (2 * pl), V.int pl]) nX8
    have eX8 := new_at (o := HO.tup [V.int (2 * pl), V.int pl]) nX8
    have tw := tw.same sX8
    have wX1 := wX1.tk (tk_same sX8)
    have lX3 := lX3.tk (tk_same sX8)
    have bA4 := bA4.tk (tk_same sX8)
    refine ⟨(show 2 ≤ sizeLine by decide), fun X9 nX9 => ?_⟩
    have sX9 := same_new (o := HO.tup [V.int nu, V.ref X8]) nX9
    have eX9 := new_at (o := HO.tup [V.int nu, V.ref X8]) nX9
    have tw := tw.same sX9
    have wX1 := wX1.tk (tk_same sX9)
    have lX3 := lX3.tk (tk_same sX9)
    have bA4 := bA4.tk (tk_same sX9)
    have eX8 := (tk_same sX9) _ _ eX8
    have wX9 : WV _ (.ref X9) (some (nu, [(2 * pl), pl])) := ⟨X9, X8, rfl, eX9, eX8⟩
    have pX9 : WiP (nu, [(2 * pl), pl]) := wip ⟨by omega, by omega⟩ ⟨by omega, by omega⟩ ⟨by omega, by omega⟩
    refine ⟨(show 4 ≤ sizeLine by decide), fun X10 nX10 => ?_⟩
    have sX10 := same_new (o := HO.tup [V.str "ask", V.int 0, V.int 1, V.ref X9]) nX10
    have eX10 := new_at (o := HO.tup [V.str "ask", V.int 0, V.int 1, V.ref X9]) nX10
    have tw := tw.same sX10
    have wX1 := wX1.tk (tk_same sX10)
    have lX3 := lX3.tk (tk_same sX10)
    have bA4 := bA4.tk (tk_same sX10)
    have wX9 := wX9.tk (tk_same sX10)
    have lX10 : LetAt _ X10 (("ask", [0, 1], some (nu, [(2 * pl), pl])) : Lt) := ⟨.ref X9, eX10, wX9⟩
    refine ⟨y, E, F, X10, (one 1 (2 * pl) (some ((nu + 1), [pl, (2 * pl)])) 0 (RA pl) 1), (("ask", [0, 1], some (nu, [(2 * pl), pl])) : Lt), rfl, tw.b, tw.nEF, lX10, (ltp2 (.inl rfl) ⟨by decide, by decide⟩ ⟨by decide, by decide⟩ (fun w e => by cases e; exact pX9)), (fun w e => by cases e; exact (show 1 < 2 by decide)), (show 1 ≤ 40 by decide), fun H11 an11 bb11 ha11 bA11 => ?_⟩
    rw [hear_less (sRA pl) (by show (nu : Int) < nu + 1; omega)] at ha11 bA11
    have ha11 : HandAt C _ y E F (one 1 (2 * pl) (some ((nu + 1), [pl, (2 * pl)])) 0 (RA pl) 1) := ha11
    have bA11 : BAt _ an11 ([] : List Bt) := bA11
    have tk11 := bb11.tk tw.b
    have wX1 := wX1.tk (tk11)
    have lX3 := lX3.tk (tk11)
    have bA4 := bA4.tk (tk11)
    have wX9 := wX9.tk (tk11)
    have lX10 := lX10.tk (tk11)
    have tw := tw.right bb11 ha11
    refine ⟨(show 0 ≤ sizeLine by decide), fun X12 nX12 => ?_⟩
    have sX12 := same_new (o := HO.tup []) nX12
    have eX12 := new_at (o := HO.tup []) nX12
    have tw := tw.same sX12
    have wX1 := wX1.tk (tk_same sX12)
    have lX3 := lX3.tk (tk_same sX12)
    have bA4 := bA4.tk (tk_same sX12)
    have wX9 := wX9.tk (tk_same sX12)
    have lX10 := lX10.tk (tk_same sX12)
    have bA11 := bA11.tk (tk_same sX12)
    have bX12 : BAt _ X12 ([] : List Bt) := ⟨[], eX12, trivial⟩
    refine ⟨_, _, dp_bat bA11, dp_bat bX12, shb _ trivial, shb _ trivial, false, nqb ([] : List Bt) trivial, iteF ?_⟩
    obtain ⟨dx13, vx13, i13, _⟩ := tw.b.in
    refine ⟨.ref y, rfl, y, dx13, _, rfl, i13, lkm, (show 4 ≤ sizeLine by decide), fun X14 nX14 => ?_⟩
    have sX14 := same_new (o := HO.tup [V.str "ask", V.int 0, V.int 1, V.non]) nX14
    have eX14 := new_at (o := HO.tup [V.str "ask", V.int 0, V.int 1, V.non]) nX14
    have tw := tw.same sX14
    have wX1 := wX1.tk (tk_same sX14)
    have lX3 := lX3.tk (tk_same sX14)
    have bA4 := bA4.tk (tk_same sX14)
    have wX9 := wX9.tk (tk_same sX14)
    have lX10 := lX10.tk (tk_same sX14)
    have lX14 : LetAt _ X14 (("ask", [0, 1], none) : Lt) := ⟨.non, eX14, rfl⟩
    refine ⟨y, E, F, X14, (one 1 (2 * pl) (some ((nu + 1), [pl, (2 * pl)])) 0 (RA pl) 1), (("ask", [0, 1], none) : Lt), rfl, tw.b, tw.nEF, lX14, (ltp2 (.inl rfl) ⟨by decide, by decide⟩ ⟨by decide, by decide⟩ (fun w e => by cases e)), (fun w e => by cases e), (show 1 ≤ 40 by decide), fun H15 an15 bb15 ha15 bA15 => ?_⟩
    rw [hear_less (sRA pl) (by show (0 : Int) < nu + 1; omega)] at ha15 bA15
    have ha15 : HandAt C _ y E F (one 1 (2 * pl) (some ((nu + 1), [pl, (2 * pl)])) 0 (RA pl) 1) := ha15
    have bA15 : BAt _ an15 ([] : List Bt) := bA15
    have tk15 := bb15.tk tw.b
    have wX1 := wX1.tk (tk15)
    have lX3 := lX3.tk (tk15)
    have bA4 := bA4.tk (tk15)
    have wX9 := wX9.tk (tk15)
    have lX10 := lX10.tk (tk15)
    have lX14 := lX14.tk (tk15)
    have tw := tw.right bb15 ha15
    refine ⟨(show 0 ≤ sizeLine by decide), fun X16 nX16 => ?_⟩
    have sX16 := same_new (o := HO.tup []) nX16
    have eX16 := new_at (o := HO.tup []) nX16
    have tw := tw.same sX16
    have wX1 := wX1.tk (tk_same sX16)
    have lX3 := lX3.tk (tk_same sX16)
    have bA4 := bA4.tk (tk_same sX16)
    have wX9 := wX9.tk (tk_same sX16)
    have lX10 := lX10.tk (tk_same sX16)
    have lX14 := lX14.tk (tk_same sX16)
    have bA15 := bA15.tk (tk_same sX16)
    have bX16 : BAt _ X16 ([] : List Bt) := ⟨[], eX16, trivial⟩
    refine ⟨_, _, dp_bat bA15, dp_bat bX16, shb _ trivial, shb _ trivial, false, nqb ([] : List Bt) trivial, iteF ?_⟩
    obtain ⟨dx17, vx17, i17, _⟩ := tw.b.in
    refine ⟨.ref y, rfl, y, dx17, _, rfl, i17, lkm, _, rfl, _, rfl, 2, _, rfl, rfl, .inl ⟨by decide, by decide⟩, _, rfl, (show 2 ≤ sizeLine by decide), fun X18 nX18 => ?_⟩
    have sX18 := same_new (o := HO.tup [V.int (2 * pl), V.int pl]) nX18
    have eX18 := new_at (o := HO.tup [V.int (2 * pl), V.int pl]) nX18
    have tw := tw.same sX18
    have wX1 := wX1.tk (tk_same sX18)
    have lX3 := lX3.tk (tk_same sX18)
    have bA4 := bA4.tk (tk_same sX18)
    have wX9 := wX9.tk (tk_same sX18)
    have lX10 := lX10.tk (tk_same sX18)
    have lX14 := lX14.tk (tk_same sX18)
    refine ⟨(show 2 ≤ sizeLine by decide), fun X19 nX19 => ?_⟩
    have sX19 := same_new (o := HO.tup [V.int nu, V.ref X18]) nX19
    have eX19 := new_at (o := HO.tup [V.int nu, V.ref X18]) nX19
    have tw := tw.same sX19
    have wX1 := wX1.tk (tk_same sX19)
    have lX3 := lX3.tk (tk_same sX19)
    have bA4 := bA4.tk (tk_same sX19)
    have wX9 := wX9.tk (tk_same sX19)
    have lX10 := lX10.tk (tk_same sX19)
    have lX14 := lX14.tk (tk_same sX19)
    have eX18 := (tk_same sX19) _ _ eX18
    have wX19 : WV _ (.ref X19) (some (nu, [(2 * pl), pl])) := ⟨X19, X18, rfl, eX19, eX18⟩
    have pX19 : WiP (nu, [(2 * pl), pl]) := wip ⟨by omega, by omega⟩ ⟨by omega, by omega⟩ ⟨by omega, by omega⟩
    refine ⟨(show 4 ≤ sizeLine by decide), fun X20 nX20 => ?_⟩
    have sX20 := same_new (o := HO.tup [V.str "ask", V.int 0, V.int 3, V.ref X19]) nX20
    have eX20 := new_at (o := HO.tup [V.str "ask", V.int 0, V.int 3, V.ref X19]) nX20
    have tw := tw.same sX20
    have wX1 := wX1.tk (tk_same sX20)
    have lX3 := lX3.tk (tk_same sX20)
    have bA4 := bA4.tk (tk_same sX20)
    have wX9 := wX9.tk (tk_same sX20)
    have lX10 := lX10.tk (tk_same sX20)
    have lX14 := lX14.tk (tk_same sX20)
    have wX19 := wX19.tk (tk_same sX20)
    have lX20 : LetAt _ X20 (("ask", [0, 3], some (nu, [(2 * pl), pl])) : Lt) := ⟨.ref X19, eX20, wX19⟩
    refine ⟨y, E, F, X20, (one 1 (2 * pl) (some ((nu + 1), [pl, (2 * pl)])) 0 (RA pl) 1), (("ask", [0, 3], some (nu, [(2 * pl), pl])) : Lt), rfl, tw.b, tw.nEF, lX20, (ltp2 (.inl rfl) ⟨by decide, by decide⟩ ⟨by decide, by decide⟩ (fun w e => by cases e; exact pX19)), (fun w e => by cases e; exact (show 1 < 2 by decide)), (show 1 ≤ 40 by decide), fun H21 an21 bb21 ha21 bA21 => ?_⟩
    rw [hear_less (sRA pl) (by show (nu : Int) < nu + 1; omega)] at ha21 bA21
    have ha21 : HandAt C _ y E F (one 1 (2 * pl) (some ((nu + 1), [pl, (2 * pl)])) 0 (RA pl) 3) := ha21
    have bA21 : BAt _ an21 ([] : List Bt) := bA21
    have tk21 := bb21.tk tw.b
    have wX1 := wX1.tk (tk21)
    have lX3 := lX3.tk (tk21)
    have bA4 := bA4.tk (tk21)
    have wX9 := wX9.tk (tk21)
    have lX10 := lX10.tk (tk21)
    have lX14 := lX14.tk (tk21)
    have wX19 := wX19.tk (tk21)
    have lX20 := lX20.tk (tk21)
    have tw := tw.right bb21 ha21
    refine ⟨(show 0 ≤ sizeLine by decide), fun X22 nX22 => ?_⟩
    have sX22 := same_new (o := HO.tup []) nX22
    have eX22 := new_at (o := HO.tup []) nX22
    have tw := tw.same sX22
    have wX1 := wX1.tk (tk_same sX22)
    have lX3 := lX3.tk (tk_same sX22)
    have bA4 := bA4.tk (tk_same sX22)
    have wX9 := wX9.tk (tk_same sX22)
    have lX10 := lX10.tk (tk_same sX22)
    have lX14 := lX14.tk (tk_same sX22)
    have wX19 := wX19.tk (tk_same sX22)
    have lX20 := lX20.tk (tk_same sX22)
    have bA21 := bA21.tk (tk_same sX22)
    have bX22 : BAt _ X22 ([] : List Bt) := ⟨[], eX22, trivial⟩
    refine ⟨_, _, dp_bat bA21, dp_bat bX22, shb _ trivial, shb _ trivial, false, nqb ([] : List Bt) trivial, iteF ?_⟩
    obtain ⟨dx23, vx23, i23, _⟩ := tw.b.in
    refine ⟨.ref y, rfl, y, dx23, _, rfl, i23, lkm, y, E, F, (one 1 (2 * pl) (some ((nu + 1), [pl, (2 * pl)])) 0 (RA pl) 3), 0, RA pl, 3, rfl, tw.b, look_one1, sRA pl, fun H24 ss24 => ?_⟩
    have tw := tw.same ss24
    have wX1 := wX1.tk (tk_same ss24)
    have lX3 := lX3.tk (tk_same ss24)
    have bA4 := bA4.tk (tk_same ss24)
    have wX9 := wX9.tk (tk_same ss24)
    have lX10 := lX10.tk (tk_same ss24)
    have lX14 := lX14.tk (tk_same ss24)
    have wX19 := wX19.tk (tk_same ss24)
    have lX20 := lX20.tk (tk_same ss24)
    refine ⟨rfl, _, rfl, ?_⟩
    refine iteNS (show V.int 3 = V.int 3 from congrArg V.int (rfl)) ?_
    refine ⟨_, rfl, _, 1, rfl, rfl, (show 2 ≤ sizeLine by decide), fun X25 nX25 => ?_⟩
    have sX25 := same_new (o := HO.tup [V.int 0, V.int 0]) nX25
    have eX25 := new_at (o := HO.tup [V.int 0, V.int 0]) nX25
    have tw := tw.same sX25
    have wX1 := wX1.tk (tk_same sX25)
    have lX3 := lX3.tk (tk_same sX25)
    have bA4 := bA4.tk (tk_same sX25)
    have wX9 := wX9.tk (tk_same sX25)
    have lX10 := lX10.tk (tk_same sX25)
    have lX14 := lX14.tk (tk_same sX25)
    have wX19 := wX19.tk (tk_same sX25)
    have lX20 := lX20.tk (tk_same sX25)
    refine ⟨(show 2 ≤ sizeLine by decide), fun X26 nX26 => ?_⟩
    have sX26 := same_new (o := HO.tup [V.int (nu + 1), V.ref X25]) nX26
    have eX26 := new_at (o := HO.tup [V.int (nu + 1), V.ref X25]) nX26
    have tw := tw.same sX26
    have wX1 := wX1.tk (tk_same sX26)
    have lX3 := lX3.tk (tk_same sX26)
    have bA4 := bA4.tk (tk_same sX26)
    have wX9 := wX9.tk (tk_same sX26)
    have lX10 := lX10.tk (tk_same sX26)
    have lX14 := lX14.tk (tk_same sX26)
    have wX19 := wX19.tk (tk_same sX26)
    have lX20 := lX20.tk (tk_same sX26)
    have eX25 := (tk_same sX26) _ _ eX25
    have wX26 : WV _ (.ref X26) (some ((nu + 1), [0, 0])) := ⟨X26, X25, rfl, eX26, eX25⟩
    have pX26 : WiP ((nu + 1), [0, 0]) := wip ⟨by omega, by omega⟩ ⟨by omega, by omega⟩ ⟨by omega, by omega⟩
    try dsimp only [List.set]
    obtain ⟨dx27, vx27, i27, _⟩ := tw.b.in
    refine ⟨.ref y, rfl, y, dx27, _, rfl, i27, lkm, _, rfl, (show 4 ≤ sizeLine by decide), fun X28 nX28 => ?_⟩
    have sX28 := same_new (o := HO.tup [V.str "ask", V.int 0, V.int 3, V.ref X26]) nX28
    have eX28 := new_at (o := HO.tup [V.str "ask", V.int 0, V.int 3, V.ref X26]) nX28
    have tw := tw.same sX28
    have wX1 := wX1.tk (tk_same sX28)
    have lX3 := lX3.tk (tk_same sX28)
    have bA4 := bA4.tk (tk_same sX28)
    have wX9 := wX9.tk (tk_same sX28)
    have lX10 := lX10.tk (tk_same sX28)
    have lX14 := lX14.tk (tk_same sX28)
    have wX19 := wX19.tk (tk_same sX28)
    have lX20 := lX20.tk (tk_same sX28)
    have wX26 := wX26.tk (tk_same sX28)
    have lX28 : LetAt _ X28 (("ask", [0, 3], some ((nu + 1), [0, 0])) : Lt) := ⟨.ref X26, eX28, wX26⟩
    refine ⟨y, E, F, X28, (one 1 (2 * pl) (some ((nu + 1), [pl, (2 * pl)])) 0 (RA pl) 3), (("ask", [0, 3], some ((nu + 1), [0, 0])) : Lt), rfl, tw.b, tw.nEF, lX28, (ltp2 (.inl rfl) ⟨by decide, by decide⟩ ⟨by decide, by decide⟩ (fun w e => by cases e; exact pX26)), (fun w e => by cases e; exact (show 1 < 2 by decide)), (show 1 ≤ 40 by decide), fun H29 an29 bb29 ha29 bA29 => ?_⟩
    rw [hear_give (w := (some ((nu + 1), [pl, (2 * pl)]))) (o := (some ((nu + 1), [0, 0]))) (v := (some ((nu + 1), [pl, (2 * pl)]))) (sRA pl) (.inr ⟨rfl, rfl⟩) (by decide) (lvB pl 3) (by rw [atB1]; exact decide_eq_true (by omega))] at ha29 bA29
    have ha29 : HandAt C _ y E F (one 1 (2 * pl) (some ((nu + 1), [pl, (2 * pl)])) 0 (RA pl) 4) := ha29
    have bA29 : BAt _ an29 ([(0, ("leave", [0, 4], some ((nu + 1), [pl, (2 * pl)])))] : List Bt) := bA29
    have tk29 := bb29.tk tw.b
    have wX1 := wX1.tk (tk29)
    have lX3 := lX3.tk (tk29)
    have bA4 := bA4.tk (tk29)
    have wX9 := wX9.tk (tk29)
    have lX10 := lX10.tk (tk29)
    have lX14 := lX14.tk (tk29)
    have wX19 := wX19.tk (tk29)
    have lX20 := lX20.tk (tk29)
    have wX26 := wX26.tk (tk29)
    have lX28 := lX28.tk (tk29)
    have tw := tw.right bb29 ha29
    refine ⟨_, rfl, (show 4 ≤ sizeLine by decide), fun X30 nX30 => ?_⟩
    have sX30 := same_new (o := HO.tup [V.str "leave", V.int 0, V.int 4, V.ref X1]) nX30
    have eX30 := new_at (o := HO.tup [V.str "leave", V.int 0, V.int 4, V.ref X1]) nX30
    have tw := tw.same sX30
    have wX1 := wX1.tk (tk_same sX30)
    have lX3 := lX3.tk (tk_same sX30)
    have bA4 := bA4.tk (tk_same sX30)
    have wX9 := wX9.tk (tk_same sX30)
    have lX10 := lX10.tk (tk_same sX30)
    have lX14 := lX14.tk (tk_same sX30)
    have wX19 := wX19.tk (tk_same sX30)
    have lX20 := lX20.tk (tk_same sX30)
    have wX26 := wX26.tk (tk_same sX30)
    have lX28 := lX28.tk (tk_same sX30)
    have bA29 := bA29.tk (tk_same sX30)
    have lX30 : LetAt _ X30 (("leave", [0, 4], some ((nu + 1), [pl, (2 * pl)])) : Lt) := ⟨.ref X1, eX30, wX1⟩
    refine ⟨(show 2 ≤ sizeLine by decide), fun X31 nX31 => ?_⟩
    have sX31 := same_new (o := HO.tup [V.int 0, V.ref X30]) nX31
    have eX31 := new_at (o := HO.tup [V.int 0, V.ref X30]) nX31
    have tw := tw.same sX31
    have wX1 := wX1.tk (tk_same sX31)
    have lX3 := lX3.tk (tk_same sX31)
    have bA4 := bA4.tk (tk_same sX31)
    have wX9 := wX9.tk (tk_same sX31)
    have lX10 := lX10.tk (tk_same sX31)
    have lX14 := lX14.tk (tk_same sX31)
    have wX19 := wX19.tk (tk_same sX31)
    have lX20 := lX20.tk (tk_same sX31)
    have wX26 := wX26.tk (tk_same sX31)
    have lX28 := lX28.tk (tk_same sX31)
    have bA29 := bA29.tk (tk_same sX31)
    have lX30 := lX30.tk (tk_same sX31)
    have rX31 : PrAt _ X31 ((0, (("leave", [0, 4], some ((nu + 1), [pl, (2 * pl)])) : Lt)) : Bt) := ⟨X30, eX31, lX30⟩
    refine ⟨(show 1 ≤ sizeLine by decide), fun X32 nX32 => ?_⟩
    have sX32 := same_new (o := HO.tup [V.ref X31]) nX32
    have eX32 := new_at (o := HO.tup [V.ref X31]) nX32
    have tw := tw.same sX32
    have wX1 := wX1.tk (tk_same sX32)
    have lX3 := lX3.tk (tk_same sX32)
    have bA4 := bA4.tk (tk_same sX32)
    have wX9 := wX9.tk (tk_same sX32)
    have lX10 := lX10.tk (tk_same sX32)
    have lX14 := lX14.tk (tk_same sX32)
    have wX19 := wX19.tk (tk_same sX32)
    have lX20 := lX20.tk (tk_same sX32)
    have wX26 := wX26.tk (tk_same sX32)
    have lX28 := lX28.tk (tk_same sX32)
    have bA29 := bA29.tk (tk_same sX32)
    have rX31 := rX31.tk (tk_same sX32)
    have bX32 : BAt _ X32 ([(0, (("leave", [0, 4], some ((nu + 1), [pl, (2 * pl)])) : Lt))] : List Bt) := ⟨[X31], eX32, ⟨rX31, trivial⟩⟩
    refine ⟨_, _, dp_bat bA29, dp_bat bX32, shb _ ⟨.inr (.inl rfl), trivial⟩, shb _ ⟨.inr (.inl rfl), trivial⟩, true, eqb ([(0, ("leave", [0, 4], some ((nu + 1), [pl, (2 * pl)])))] : List Bt) ⟨.inr (.inl rfl), trivial⟩, iteT ?_⟩
    obtain ⟨dz, vz, iz, wz⟩ := tw.b.in
    have wz : WV _ vz (some ((nu + 1), [pl, (2 * pl)])) := wz
    refine ⟨.ref y, rfl, y, C, dz, _, _, rfl, iz, X.cl, X.n3, lk3, _, rfl, _, _, dp_wish wz, dp_wish wX1, shw _, shw _, ?_⟩
    rw [show V.bl (PyData.eqv (wiD (some ((nu + 1), [pl, (2 * pl)]))) (wiD (some ((nu + 1), [pl, (2 * pl)])))) = .bl true from congrArg V.bl (eqw _)]
    exact q _ tw.fr
abbrev a__law_asked_while_out : Stmt := topS 26
abbrev n__law_asked_while_out : List Str := ["_law_place", "_law_number", "_law_one", "_law_two_here", "_law_rule", "_law_ask", "_law_told"]
theorem sc__law_asked_while_out : FnScope n__law_asked_while_out ["_law_place", "_law_number"] (defScope a__law_asked_while_out) := ⟨rfl, rfl, rfl, by decide +kernel, rfl, by decide +kernel, by decide +kernel⟩
set_option maxHeartbeats 8000000 in
theorem ok__law_asked_while_out {f fTw : Addr} {fd fdTw : FuncData} {k : Nat} {C : Addr} (F : Fun K "_law_asked_while_out" "_law_asked_while_out" a__law_asked_while_out f fd) (Tw : Kn P w K mg base 3 "_law_two" ["_law_place"] (spTwo C) fTw fdTw) (Hh : C8.Met P w K mg base 7 C "hear" (spHear C) []) (St1 : C8.Met P w K mg base 8 C "stride" (spStride C) []) (Hc : C8.Met P w K mg base 4 C "count_of" (spCount C) []) (Hv : C8.Met P w K mg base 5 C "has_leave" (spLeave C) []) (Hl : C8.Met P w K mg base 6 C "lacks" (spLkL C) []) (Hb : C8.Met P w K mg base 7 C "beat" (spBeat C) []) (X : HandTxt K C)  : FnOk P w K mg base CX0 (k + 9) f fd ["_law_place", "_law_number"] (spHist C) := by
  refine F.ok sc__law_asked_while_out (fun vs H Q E h => ?_) (fun cdv A outer s H vs Q E hr h => ?_)
  · obtain ⟨pl, nu, rfl, _⟩ := h
    rfl
  · obtain ⟨pl, nu, rfl, hp1, hp2, hn1, hn2, q⟩ := h
    refine ⟨_, (pss_cons (ps_asg (pe_kn Tw hr (by omega) (pa_cons (pv 0) pa_nil)) (pg_tup rfl (pgs_cons (pg_name (i := 2) sc__law_asked_while_out.nd rfl (.inl rfl)) (pgs_cons (pg_name (i := 3) sc__law_asked_while_out.nd rfl (.inl rfl)) (pgs_cons (pg_name (i := 4) sc__law_asked_while_out.nd rfl (.inl rfl)) pgs_nil)))))
      (pss_cons (ps_set (i := 5) sc__law_asked_while_out.nd rfl (.inl rfl) (pe_tup (pa_cons pe_str (pa_cons pe_int (pa_cons pe_int (pa_cons (pe_tup (pa_cons (pv 1) (pa_cons (pe_tup (pa_cons (pe_op op_mul pe_int (pv 0)) (pa_cons (pv 0) pa_nil))) pa_nil))) pa_nil))))))
      (pss_cons (ps_if (PW.pt (pw_or (pt_cmpR (op_neD hr.units) (C8.pe_mt Hh hr (by omega) (pv 3) (pa_cons (pv 5) pa_nil)) (pe_tup pa_nil) (nomark _)) (pw_or (pt_cmpR (op_neD hr.units) (pe_fld (pv 3) rfl) (pe_ix ix_tup (pv 5) pe_int (fun _ _ => rfl)) (nomark _)) (pw_or (pt_cmpR op_ne (C8.pe_mt0 St1 hr (by omega) (pv 3)) (pv 0) (nomark _)) (pw_or1 (pt_cmpR op_ne (C8.pe_mt Hc hr (by omega) (pv 3) (pa_cons pe_int pa_nil)) pe_int (nomark _))))))) (pss_one (ps_ret pe_bl)) pss_nil)
      (pss_cons (ps_set (i := 6) sc__law_asked_while_out.nd rfl (.inl rfl) (pe_lst (pa_cons (C8.pe_mt Hh hr (by omega) (pv 3) (pa_cons (pv 5) pa_nil)) (pa_cons (C8.pe_mt Hh hr (by omega) (pv 3) (pa_cons (pv 5) pa_nil)) (pa_cons (C8.pe_mt Hh hr (by omega) (pv 3) (pa_cons (pv 5) pa_nil)) pa_nil)))))
      (pss_one (ps_ret (pe_and (pe_cmpR (op_eqD hr.units) (pv 6) (pe_op op_rep (pe_lst (pa_cons (pe_tup (pa_cons (pe_tup (pa_cons pe_int (pa_cons (pe_tup (pa_cons pe_str (pa_cons pe_int (pa_cons pe_int (pa_cons (pe_ix ix_tup (pv 5) pe_int (fun _ _ => rfl)) pa_nil))))) pa_nil))) pa_nil)) pa_nil)) pe_int) (nomark _)) (pe_one (pe_cmpR op_eq (C8.pe_mt Hc hr (by omega) (pv 3) (pa_cons pe_int pa_nil)) pe_int (nomark _)))))))))), ?_⟩
    refine ⟨_, rfl, pl, rfl, fun H1 G0 r x D T y E F eG0 rA tw => ⟨G0, _, rfl, .inl (.inl eG0), rfl, _, _, rfl, _, _, rfl, _, _, rfl, rfl, ?_⟩⟩
    try dsimp only [List.set]
    refine ⟨_, rfl, _, rfl, 2, _, rfl, rfl, .inl ⟨by decide, by decide⟩, _, rfl, (show 2 ≤ sizeLine by decide), fun X0 nX0 => ?_⟩
    have sX0 := same_new (o := HO.tup [V.int (2 * pl), V.int pl]) nX0
    have eX0 := new_at (o := HO.tup [V.int (2 * pl), V.int pl]) nX0
    have tw := tw.same sX0
    refine ⟨(show 2 ≤ sizeLine by decide), fun X1 nX1 => ?_⟩
    have sX1 := same_new (o := HO.tup [V.int nu, V.ref X0]) nX1
    have eX1 := new_at (o := HO.tup [V.int nu, V.ref X0]) nX1
    have tw := tw.same sX1
    have eX0 := (tk_same sX1) _ _ eX0
    have wX1 : WV _ (.ref X1) (some (nu, [(2 * pl), pl])) := ⟨X1, X0, rfl, eX1, eX0⟩
    have pX1 : WiP (nu, [(2 * pl), pl]) := wip ⟨by omega, by omega⟩ ⟨by omega, by omega⟩ ⟨by omega, by omega⟩
    refine ⟨(show 4 ≤ sizeLine by decide), fun X2 nX2 => ?_⟩
    have sX2 := same_new (o := HO.tup [V.str "ask", V.int 0, V.int 1, V.ref X1]) nX2
    have eX2 := new_at (o := HO.tup [V.str "ask", V.int 0, V.int 1, V.ref X1]) nX2
    have tw := tw.same sX2
    have wX1 := wX1.tk (tk_same sX2)
    have lX2 : LetAt _ X2 (("ask", [0, 1], some (nu, [(2 * pl), pl])) : Lt) := ⟨.ref X1, eX2, wX1⟩
    try dsimp only [List.set]
    obtain ⟨dx3, vx3, i3, _⟩ := tw.b.in
    refine ⟨.ref y, rfl, y, dx3, _, rfl, i3, lkm, _, rfl, y, E, F, X2, (one 1 0 (none) 0 (RA pl) 1), (("ask", [0, 1], some (nu, [(2 * pl), pl])) : Lt), rfl, tw.b, tw.nEF, lX2, (ltp2 (.inl rfl) ⟨by decide, by decide⟩ ⟨by decide, by decide⟩ (fun w e => by cases e; exact pX1)), (fun w e => by cases e; exact (show 1 < 2 by decide)), (show 1 ≤ 40 by decide), fun H4 an4 bb4 ha4 bA4 => ?_⟩
    rw [hear_keep (w := none) (o := (some (nu, [(2 * pl), pl]))) (v := (some (nu, [(2 * pl), pl]))) (sRA pl) (.inl ⟨rfl, by show (0 : Int) < nu; omega⟩) (by decide) (.inr (by rw [atB1]; exact decide_eq_false (by omega)))] at ha4 bA4
    have ha4 : HandAt C _ y E F (one 1 0 (some (nu, [(2 * pl), pl])) 0 (RA pl) 1) := ha4
    have bA4 : BAt _ an4 ([] : List Bt) := bA4
    have tk4 := bb4.tk tw.b
    have wX1 := wX1.tk (tk4)
    have lX2 := lX2.tk (tk4)
    have tw := tw.right bb4 ha4
    refine ⟨(show 0 ≤ sizeLine by decide), fun X5 nX5 => ?_⟩
    have sX5 := same_new (o := HO.tup []) nX5
    have eX5 := new_at (o := HO.tup []) nX5
    have tw := tw.same sX5
    have wX1 := wX1.tk (tk_same sX5)
    have lX2 := lX2.tk (tk_same sX5)
    have bA4 := bA4.tk (tk_same sX5)
    have bX5 : BAt _ X5 ([] : List Bt) := ⟨[], eX5, trivial⟩
    refine ⟨_, _, dp_bat bA4, dp_bat bX5, shb _ trivial, shb _ trivial, false, nqb ([] : List Bt) trivial, iteF ?_⟩
    obtain ⟨dz, vz, iz, wz⟩ := tw.b.in
    obtain ⟨uz, euz, wuz⟩ := id lX2
    refine ⟨.ref y, rfl, y, C, dz, _, _, rfl, iz, X.cl, X.n3, lk3, _, rfl, X2, _, 3, _, rfl, rfl, .inl (.inl euz), atI_nat (j := 3) rfl, _, _, dp_wish wz, dp_wish wuz, shw _, shw _, false, nqw _, iteF ?_⟩
    obtain ⟨dx6, vx6, i6, _⟩ := tw.b.in
    refine ⟨.ref y, rfl, y, dx6, _, rfl, i6, lkm, y, E, F, (one 1 0 (some (nu, [(2 * pl), pl])) 0 (RA pl) 1), rfl, tw.b, tw.nEF, tw.v, (show 1 ≤ 40 by decide), (fun w e => by cases e; exact (show 1 < 2 by decide)), fun H7 q7 bb7 ha7 st7 => ?_⟩
    obtain rfl : pl = q7 := (st7.uniq (st_goal (sRA pl) (fun z => by cases z) rfl (.inl (lvB pl 1)))).symm
    have ha7 : HandAt C _ y E F (one 1 pl (some (nu, [(2 * pl), pl])) 0 (RA pl) 1) := ha7
    have tk7 := bb7.tk tw.b
    have wX1 := wX1.tk (tk7)
    have lX2 := lX2.tk (tk7)
    have tw := tw.right bb7 ha7
    refine ⟨_, rfl, rfl, _, rfl, ?_⟩
    refine iteNS (show V.int (if pl - 0 < 0 then -(pl - 0) else pl - 0) = V.int pl from congrArg V.int (by split <;> omega)) ?_
    obtain ⟨dx8, vx8, i8, _⟩ := tw.b.in
    refine ⟨.ref y, rfl, y, dx8, _, rfl, i8, lkm, y, E, F, (one 1 pl (some (nu, [(2 * pl), pl])) 0 (RA pl) 1), 0, RA pl, 1, rfl, tw.b, look_one1, sRA pl, fun H9 ss9 => ?_⟩
    have tw := tw.same ss9
    have wX1 := wX1.tk (tk_same ss9)
    have lX2 := lX2.tk (tk_same ss9)
    refine ⟨rfl, _, rfl, ?_⟩
    refine iteNS (show V.int 1 = V.int 1 from congrArg V.int (rfl)) ?_
    obtain ⟨dx10, vx10, i10, _⟩ := tw.b.in
    refine ⟨.ref y, rfl, y, dx10, _, rfl, i10, lkm, _, rfl, y, E, F, X2, (one 1 pl (some (nu, [(2 * pl), pl])) 0 (RA pl) 1), (("ask", [0, 1], some (nu, [(2 * pl), pl])) : Lt), rfl, tw.b, tw.nEF, lX2, (ltp2 (.inl rfl) ⟨by decide, by decide⟩ ⟨by decide, by decide⟩ (fun w e => by cases e; exact pX1)), (fun w e => by cases e; exact (show 1 < 2 by decide)), (show 1 ≤ 40 by decide), fun H11 an11 bb11 ha11 bA11 => ?_⟩
    rw [hear_give (w := (some (nu, [(2 * pl), pl]))) (o := (some (nu, [(2 * pl), pl]))) (v := (some (nu, [(2 * pl), pl]))) (sRA pl) (.inr ⟨rfl, rfl⟩) (by decide) (lvB pl 1) (by rw [atB1]; exact decide_eq_true (by omega))] at ha11 bA11
    have ha11 : HandAt C _ y E F (one 1 pl (some (nu, [(2 * pl), pl])) 0 (RA pl) 2) := ha11
    have bA11 : BAt _ an11 ([(0, ("leave", [0, 2], some (nu, [(2 * pl), pl])))] : List Bt) := bA11
    have tk11 := bb11.tk tw.b
    have wX1 := wX1.tk (tk11)
    have lX2 := lX2.tk (tk11)
    have tw := tw.right bb11 ha11
    obtain ⟨dx12, vx12, i12, _⟩ := tw.b.in
    refine ⟨.ref y, rfl, y, dx12, _, rfl, i12, lkm, _, rfl, y, E, F, X2, (one 1 pl (some (nu, [(2 * pl), pl])) 0 (RA pl) 2), (("ask", [0, 1], some (nu, [(2 * pl), pl])) : Lt), rfl, tw.b, tw.nEF, lX2, (ltp2 (.inl rfl) ⟨by decide, by decide⟩ ⟨by decide, by decide⟩ (fun w e => by cases e; exact pX1)), (fun w e => by cases e; exact (show 1 < 2 by decide)), (show 1 ≤ 40 by decide), fun H13 an13 bb13 ha13 bA13 => ?_⟩
    rw [hear_tell (w := (some (nu, [(2 * pl), pl]))) (o := (some (nu, [(2 * pl), pl]))) (v := (some (nu, [(2 * pl), pl]))) (sRA pl) (.inr ⟨rfl, rfl⟩) (by decide)] at ha13 bA13
    have ha13 : HandAt C _ y E F (one 1 pl (some (nu, [(2 * pl), pl])) 0 (RA pl) 2) := ha13
    have bA13 : BAt _ an13 ([(0, ("leave", [0, 2], some (nu, [(2 * pl), pl])))] : List Bt) := bA13
    have tk13 := bb13.tk tw.b
    have wX1 := wX1.tk (tk13)
    have lX2 := lX2.tk (tk13)
    have bA11 := bA11.tk (tk13)
    have tw := tw.right bb13 ha13
    obtain ⟨dx14, vx14, i14, _⟩ := tw.b.in
    refine ⟨.ref y, rfl, y, dx14, _, rfl, i14, lkm, _, rfl, y, E, F, X2, (one 1 pl (some (nu, [(2 * pl), pl])) 0 (RA pl) 2), (("ask", [0, 1], some (nu, [(2 * pl), pl])) : Lt), rfl, tw.b, tw.nEF, lX2, (ltp2 (.inl rfl) ⟨by decide, by decide⟩ ⟨by decide, by decide⟩ (fun w e => by cases e; exact pX1)), (fun w e => by cases e; exact (show 1 < 2 by decide)), (show 1 ≤ 40 by decide), fun H15 an15 bb15 ha15 bA15 => ?_⟩
    rw [hear_tell (w := (some (nu, [(2 * pl), pl]))) (o := (some (nu, [(2 * pl), pl]))) (v := (some (nu, [(2 * pl), pl]))) (sRA pl) (.inr ⟨rfl, rfl⟩) (by decide)] at ha15 bA15
    have ha15 : HandAt C _ y E F (one 1 pl (some (nu, [(2 * pl), pl])) 0 (RA pl) 2) := ha15
    have bA15 : BAt _ an15 ([(0, ("leave", [0, 2], some (nu, [(2 * pl), pl])))] : List Bt) := bA15
    have tk15 := bb15.tk tw.b
    have wX1 := wX1.tk (tk15)
    have lX2 := lX2.tk (tk15)
    have bA11 := bA11.tk (tk15)
    have bA13 := bA13.tk (tk15)
    have tw := tw.right bb15 ha15
    refine ⟨(show 3 ≤ sizeLine by decide), fun X16 nX16 => ?_⟩
    have sX16 := same_new (o := HO.lst [V.ref an11, V.ref an13, V.ref an15]) nX16
    have eX16 := new_at (o := HO.lst [V.ref an11, V.ref an13, V.ref an15]) nX16
    have tw := tw.same sX16
    have wX1 := wX1.tk (tk_same sX16)
    have lX2 := lX2.tk (tk_same sX16)
    have bA11 := bA11.tk (tk_same sX16)
    have bA13 := bA13.tk (tk_same sX16)
    have bA15 := bA15.tk (tk_same sX16)
    try dsimp only [List.set]
    obtain ⟨uy, euy, wuy⟩ := id lX2
    refine ⟨_, rfl, _, rfl, X2, _, 3, _, rfl, rfl, .inl (.inl euy), atI_nat (j := 3) rfl, (show 4 ≤ sizeLine by decide), fun X17 nX17 => ?_⟩
    have sX17 := same_new (o := HO.tup [V.str "leave", V.int 0, V.int 2, uy]) nX17
    have eX17 := new_at (o := HO.tup [V.str "leave", V.int 0, V.int 2, uy]) nX17
    have tw := tw.same sX17
    have wX1 := wX1.tk (tk_same sX17)
    have lX2 := lX2.tk (tk_same sX17)
    have bA11 := bA11.tk (tk_same sX17)
    have bA13 := bA13.tk (tk_same sX17)
    have bA15 := bA15.tk (tk_same sX17)
    have eX16 := sX17 _ _ eX16
    have euy := (tk_same sX17) _ _ euy
    have wuy := wuy.tk (tk_same sX17)
    have lX17 : LetAt _ X17 (("leave", [0, 2], some (nu, [(2 * pl), pl])) : Lt) := ⟨uy, eX17, wuy⟩
    refine ⟨(show 2 ≤ sizeLine by decide), fun X18 nX18 => ?_⟩
    have sX18 := same_new (o := HO.tup [V.int 0, V.ref X17]) nX18
    have eX18 := new_at (o := HO.tup [V.int 0, V.ref X17]) nX18
    have tw := tw.same sX18
    have wX1 := wX1.tk (tk_same sX18)
    have lX2 := lX2.tk (tk_same sX18)
    have bA11 := bA11.tk (tk_same sX18)
    have bA13 := bA13.tk (tk_same sX18)
    have bA15 := bA15.tk (tk_same sX18)
    have eX16 := sX18 _ _ eX16
    have euy := (tk_same sX18) _ _ euy
    have wuy := wuy.tk (tk_same sX18)
    have lX17 := lX17.tk (tk_same sX18)
    have rX18 : PrAt _ X18 ((0, (("leave", [0, 2], some (nu, [(2 * pl), pl])) : Lt)) : Bt) := ⟨X17, eX18, lX17⟩
    refine ⟨(show 1 ≤ sizeLine by decide), fun X19 nX19 => ?_⟩
    have sX19 := same_new (o := HO.tup [V.ref X18]) nX19
    have eX19 := new_at (o := HO.tup [V.ref X18]) nX19
    have tw := tw.same sX19
    have wX1 := wX1.tk (tk_same sX19)
    have lX2 := lX2.tk (tk_same sX19)
    have bA11 := bA11.tk (tk_same sX19)
    have bA13 := bA13.tk (tk_same sX19)
    have bA15 := bA15.tk (tk_same sX19)
    have eX16 := sX19 _ _ eX16
    have euy := (tk_same sX19) _ _ euy
    have wuy := wuy.tk (tk_same sX19)
    have lX17 := lX17.tk (tk_same sX19)
    have rX18 := rX18.tk (tk_same sX19)
    have bX19 : BAt _ X19 ([(0, ("leave", [0, 2], some (nu, [(2 * pl), pl])))] : List Bt) := ⟨[X18], eX19, rX18, trivial⟩
    refine ⟨(show 1 ≤ sizeLine by decide), fun X20 nX20 => ?_⟩
    have sX20 := same_new (o := HO.lst [V.ref X19]) nX20
    have eX20 := new_at (o := HO.lst [V.ref X19]) nX20
    have tw := tw.same sX20
    have wX1 := wX1.tk (tk_same sX20)
    have lX2 := lX2.tk (tk_same sX20)
    have bA11 := bA11.tk (tk_same sX20)
    have bA13 := bA13.tk (tk_same sX20)
    have bA15 := bA15.tk (tk_same sX20)
    have eX16 := sX20 _ _ eX16
    have euy := (tk_same sX20) _ _ euy
    have wuy := wuy.tk (tk_same sX20)
    have lX17 := lX17.tk (tk_same sX20)
    have rX18 := rX18.tk (tk_same sX20)
    have bX19 := bX19.tk (tk_same sX20)
    refine ⟨X20, 3, [V.ref X19], rfl, rfl, eX20, by decide, by decide, (show 1 * 3 ≤ sizeLine by decide), fun Z nZ => ?_⟩
    have sZ := same_new (o := HO.lst [V.ref X19, .ref X19, .ref X19]) nZ
    have eZ := new_at (o := HO.lst [V.ref X19, .ref X19, .ref X19]) nZ
    have tw := tw.same sZ
    have wX1 := wX1.tk (tk_same sZ)
    have lX2 := lX2.tk (tk_same sZ)
    have bA11 := bA11.tk (tk_same sZ)
    have bA13 := bA13.tk (tk_same sZ)
    have bA15 := bA15.tk (tk_same sZ)
    have eX16 := sZ _ _ eX16
    have euy := (tk_same sZ) _ _ euy
    have wuy := wuy.tk (tk_same sZ)
    have lX17 := lX17.tk (tk_same sZ)
    have rX18 := rX18.tk (tk_same sZ)
    have bX19 := bX19.tk (tk_same sZ)
    have eX20 := sZ _ _ eX20
    have lz : PyData.canLay0 (.list [.tuple (([(0, ("leave", [0, 2], some (nu, [(2 * pl), pl])))] : List Bt).map btD), .tuple (([(0, ("leave", [0, 2], some (nu, [(2 * pl), pl])))] : List Bt).map btD), .tuple (([(0, ("leave", [0, 2], some (nu, [(2 * pl), pl])))] : List Bt).map btD)]) = true ∧ PyData.depth (.list [.tuple (([(0, ("leave", [0, 2], some (nu, [(2 * pl), pl])))] : List Bt).map btD), .tuple (([(0, ("leave", [0, 2], some (nu, [(2 * pl), pl])))] : List Bt).map btD), .tuple (([(0, ("leave", [0, 2], some (nu, [(2 * pl), pl])))] : List Bt).map btD)]) ≤ 6 := by
      obtain ⟨h1, h2⟩ := lay_bts ([(0, ("leave", [0, 2], some (nu, [(2 * pl), pl])))] : List Bt) ⟨.inr (.inl rfl), trivial⟩
      generalize PyData.tuple (([(0, ("leave", [0, 2], some (nu, [(2 * pl), pl])))] : List Bt).map btD) = dd at h1 h2 ⊢
      simp only [PyData.canLayAll0, PyData.canLay0, PyData.depthAll, PyData.depth, h1, Bool.and_self]
      exact ⟨trivial, by omega⟩
    refine ⟨_, _, .lst (.inl (.inl eX16)) (.cons (dp_bat bA11) (.cons (dp_bat bA13) (.cons (dp_bat bA15) .nil))), .lst (.inl (.inl eZ)) (.cons (dp_bat bX19) (.cons (dp_bat bX19) (.cons (dp_bat bX19) .nil))), sh_of lz (by decide), sh_of lz (by decide), true, congrArg V.bl (SeqAt.eqv_refl _ lz.1), iteT ?_⟩
    obtain ⟨dx22, vx22, i22, _⟩ := tw.b.in
    refine ⟨.ref y, rfl, y, dx22, _, rfl, i22, lkm, y, E, F, (one 1 pl (some (nu, [(2 * pl), pl])) 0 (RA pl) 2), 0, RA pl, 2, rfl, tw.b, look_one1, sRA pl, fun H23 ss23 => ?_⟩
    have tw := tw.same ss23
    have wX1 := wX1.tk (tk_same ss23)
    have lX2 := lX2.tk (tk_same ss23)
    have bA11 := bA11.tk (tk_same ss23)
    have bA13 := bA13.tk (tk_same ss23)
    have bA15 := bA15.tk (tk_same ss23)
    have eX16 := ss23 _ _ eX16
    have euy := (tk_same ss23) _ _ euy
    have wuy := wuy.tk (tk_same ss23)
    have lX17 := lX17.tk (tk_same ss23)
    have rX18 := rX18.tk (tk_same ss23)
    have bX19 := bX19.tk (tk_same ss23)
    have eX20 := ss23 _ _ eX20
    refine ⟨rfl, ?_⟩
    rw [show decide (V.int 2 = V.int 2) = true from decide_eq_true (congrArg V.int (rfl))]
    exact q _ tw.fr
abbrev a__law_lost_leave : Stmt := topS 23
abbrev n__law_lost_leave : List Str := ["_law_place", "_law_number", "_law_one", "_law_two_here", "_law_rule", "_law_wish", "_law_asked", "_law_given", "_law_back", "_law_hand"]
theorem sc__law_lost_leave : FnScope n__law_lost_leave ["_law_place", "_law_number"] (defScope a__law_lost_leave) := ⟨rfl, rfl, rfl, by decide +kernel, rfl, by decide +kernel, by decide +kernel⟩
set_option maxHeartbeats 8000000 in
theorem ok__law_lost_leave {f fTw : Addr} {fd fdTw : FuncData} {k : Nat} {C : Addr} (F : Fun K "_law_lost_leave" "_law_lost_leave" a__law_lost_leave f fd) (Tw : Kn P w K mg base 3 "_law_two" ["_law_place"] (spTwo C) fTw fdTw) (Hh : C8.Met P w K mg base 7 C "hear" (spHear C) []) (St1 : C8.Met P w K mg base 8 C "stride" (spStride C) []) (Hc : C8.Met P w K mg base 4 C "count_of" (spCount C) []) (Hv : C8.Met P w K mg base 5 C "has_leave" (spLeave C) []) (Hl : C8.Met P w K mg base 6 C "lacks" (spLkL C) []) (Hb : C8.Met P w K mg base 7 C "beat" (spBeat C) []) (X : HandTxt K C)  : FnOk P w K mg base CX0 (k + 9) f fd ["_law_place", "_law_number"] (spHist C) := by
  refine F.ok sc__law_lost_leave (fun vs H Q E h => ?_) (fun cdv A outer s H vs Q E hr h => ?_)
  · obtain ⟨pl, nu, rfl, _⟩ := h
    rfl
  · obtain ⟨pl, nu, rfl, hp1, hp2, hn1, hn2, q⟩ := h
    refine ⟨_, (pss_cons (ps_asg (pe_kn Tw hr (by omega) (pa_cons (pv 0) pa_nil)) (pg_tup rfl (pgs_cons (pg_name (i := 2) sc__law_lost_leave.nd rfl (.inl rfl)) (pgs_cons (pg_name (i := 3) sc__law_lost_leave.nd rfl (.inl rfl)) (pgs_cons (pg_name (i := 4) sc__law_lost_leave.nd rfl (.inl rfl)) pgs_nil)))))
      (pss_cons (ps_expr (C8.pe_mt Hh hr (by omega) (pv 3) (pa_cons (pe_tup (pa_cons pe_str (pa_cons (pe_tup (pa_cons (pv 1) (pa_cons (pe_tup (pa_cons (pv 0) (pa_cons (pe_op op_mul pe_int (pv 0)) pa_nil))) pa_nil))) pa_nil))) pa_nil)))
      (pss_cons (ps_expr (C8.pe_mt Hh hr (by omega) (pv 2) (pa_cons (pe_tup (pa_cons pe_str (pa_cons (pe_tup (pa_cons (pv 1) (pa_cons (pe_tup (pa_cons (pv 0) (pa_cons (pe_op op_mul pe_int (pv 0)) pa_nil))) pa_nil))) pa_nil))) pa_nil)))
      (pss_cons (ps_if (PW.pt (pw_or (pt_cmpR op_ne (C8.pe_mt0 St1 hr (by omega) (pv 3)) (pe_op op_mul pe_int (pv 0)) (nomark _)) (pw_or (pt_cmpR (op_neD hr.units) (pe_slice (r := rSlA K) sl_tupA (C8.pe_mt0 Hb hr (by omega) (pv 3)) po_none (po_some (pe_un un_neg pe_int))) (pe_tup pa_nil) (nomark _)) (pw_or1 (pt_cmpR op_ne (C8.pe_mt0 St1 hr (by omega) (pv 2)) (pv 0) (nomark _)))))) (pss_one (ps_ret pe_bl)) pss_nil)
      (pss_cons (ps_set (i := 5) sc__law_lost_leave.nd rfl (.inl rfl) (pe_tup (pa_cons (pe_op op_add (pv 1) pe_int) (pa_cons (pe_tup (pa_cons (pe_op op_mul pe_int (pv 0)) (pa_cons (pe_op op_mul pe_int (pv 0)) pa_nil))) pa_nil))))
      (pss_cons (ps_expr (C8.pe_mt Hh hr (by omega) (pv 2) (pa_cons (pe_tup (pa_cons pe_str (pa_cons (pv 5) pa_nil))) pa_nil)))
      (pss_cons (ps_set (i := 6) sc__law_lost_leave.nd rfl (.inl rfl) (C8.pe_mt0 Hb hr (by omega) (pv 2)))
      (pss_cons (ps_if (pt_cmpR (op_neD hr.units) (pv 6) (pe_tup (pa_cons (pe_tup (pa_cons pe_int (pa_cons (pe_tup (pa_cons pe_str (pa_cons pe_int (pa_cons pe_int (pa_cons (pv 5) pa_nil))))) pa_nil))) (pa_cons (pe_tup (pa_cons pe_int (pa_cons (pe_tup (pa_cons pe_str (pa_cons (pv 5) pa_nil))) pa_nil))) pa_nil))) (nomark _)) (pss_one (ps_ret pe_bl)) pss_nil)
      (pss_cons (ps_set (i := 7) sc__law_lost_leave.nd rfl (.inl rfl) (C8.pe_mt Hh hr (by omega) (pv 3) (pa_cons (pe_ix ix_tup (pe_ix ix_tup (pv 6) pe_int (fun _ _ => rfl)) pe_int (fun _ _ => rfl)) pa_nil)))
      (pss_cons (ps_if (PW.pt (pw_or (pt_cmpR (op_neD hr.units) (pv 7) (pe_tup (pa_cons (pe_tup (pa_cons pe_int (pa_cons (pe_tup (pa_cons pe_str (pa_cons pe_int (pa_cons pe_int (pa_cons (pv 5) pa_nil))))) pa_nil))) pa_nil)) (nomark _)) (pw_or1 (pt_cmpR (op_neD hr.units) (
        pe_lc (own := [("_law_hand", 9)]) (g := (gName 9)) (tt := tYes) (te := (tMeth C "has_leave" (spLeave C) [] E0 (tVar 9) (tCons (tC (.int 0)) tNil))) rfl sc__law_lost_leave.nd (pi_tup (pe_tup (pa_cons (pv 2) (pa_cons (pv 3) pa_nil)))) (blkOk_by (N := n__law_lost_leave) (sc := defScope a__law_lost_leave) (by decide +kernel))
          (fun _ _ _ _ _ => (pg_name (i := 9) sc__law_lost_leave.nd rfl (.inl rfl) (hf := .inr rfl))) (fun _ _ _ _ _ => pts_nil) (fun _ _ _ _ _ => (C8.pe_mt Hv hr (by omega) (pv 9) (pa_cons pe_int pa_nil)))) (pe_op op_rep (pe_lst (pa_cons pe_bl pa_nil)) pe_int) (nomark _))))) (pss_one (ps_ret pe_bl)) pss_nil)
      (pss_cons (ps_set (i := 8) sc__law_lost_leave.nd rfl (.inl rfl) (pe_tup (pa_cons (pe_op op_add (pv 1) pe_int) (pa_cons (pe_tup (pa_cons (pv 0) (pa_cons pe_int pa_nil))) pa_nil))))
      (pss_cons (ps_expr (C8.pe_mt Hh hr (by omega) (pv 3) (pa_cons (pe_tup (pa_cons pe_str (pa_cons (pv 8) pa_nil))) pa_nil)))
      (pss_cons (ps_if (PW.pt (pw_or (pt_cmpR op_ne (C8.pe_mt0 St1 hr (by omega) (pv 3)) (pv 0) (nomark _)) (pw_or (pt_cmpR (op_neD hr.units) (C8.pe_mt0 Hl hr (by omega) (pv 3)) (pe_tup (pa_cons pe_int pa_nil)) (nomark _)) (pw_or1 (pt_cmpR (op_neD hr.units) (pe_ix ix_tup (C8.pe_mt0 Hb hr (by omega) (pv 3)) pe_int (fun _ _ => rfl)) (pe_tup (pa_cons pe_int (pa_cons (pe_tup (pa_cons pe_str (pa_cons pe_int (pa_cons pe_int (pa_cons (pv 8) pa_nil))))) pa_nil))) (nomark _)))))) (pss_one (ps_ret pe_bl)) pss_nil)
      (pss_cons (ps_if (PW.pt (pw_or (pt_cmpR (op_neD hr.units) (C8.pe_mt Hh hr (by omega) (pv 2) (pa_cons (pe_tup (pa_cons pe_str (pa_cons pe_int (pa_cons pe_int (pa_cons (pv 8) pa_nil))))) pa_nil)) (pe_tup (pa_cons (pe_tup (pa_cons pe_int (pa_cons (pe_tup (pa_cons pe_str (pa_cons pe_int (pa_cons pe_int (pa_cons (pv 8) pa_nil))))) pa_nil))) pa_nil)) (nomark _)) (pw_or1 (pt_cmpR op_notBl (C8.pe_mt Hv hr (by omega) (pv 2) (pa_cons pe_int pa_nil)) pe_bl (nomark _))))) (pss_one (ps_ret pe_bl)) pss_nil)
      (pss_cons (ps_expr (C8.pe_mt Hh hr (by omega) (pv 3) (pa_cons (pe_tup (pa_cons pe_str (pa_cons pe_int (pa_cons pe_int (pa_cons (pv 8) pa_nil))))) pa_nil)))
      (pss_one (ps_ret (pe_and (pe_cmpR op_eq (C8.pe_mt0 St1 hr (by omega) (pv 3)) (pv 0) (nomark _)) (pe_and (pe_cmpR (op_eqD hr.units) (C8.pe_mt Hh hr (by omega) (pv 2) (pa_cons (pe_tup (pa_cons pe_str (pa_cons pe_int (pa_cons pe_int (pa_cons (pv 5) pa_nil))))) pa_nil)) (pe_tup pa_nil) (nomark _)) (pe_one (pe_cmpR op_eq (C8.pe_mt Hc hr (by omega) (pv 2) (pa_cons pe_int pa_nil)) pe_int (nomark _)))))))))))))))))))))), ?_⟩
    refine ⟨_, rfl, pl, rfl, fun H1 G0 r x D T y E F eG0 rA tw => ⟨G0, _, rfl, .inl (.inl eG0), rfl, _, _, rfl, _, _, rfl, _, _, rfl, rfl, ?_⟩⟩
    try dsimp only [List.set]
    obtain ⟨dx0, vx0, i0, _⟩ := tw.b.in
    refine ⟨.ref y, rfl, y, dx0, _, rfl, i0, lkm, _, rfl, _, rfl, _, rfl, 2, _, rfl, rfl, .inl ⟨by decide, by decide⟩, (show 2 ≤ sizeLine by decide), fun X1 nX1 => ?_⟩
    have sX1 := same_new (o := HO.tup [V.int pl, V.int (2 * pl)]) nX1
    have eX1 := new_at (o := HO.tup [V.int pl, V.int (2 * pl)]) nX1
    have tw := tw.same sX1
    refine ⟨(show 2 ≤ sizeLine by decide), fun X2 nX2 => ?_⟩
    have sX2 := same_new (o := HO.tup [V.int nu, V.ref X1]) nX2
    have eX2 := new_at (o := HO.tup [V.int nu, V.ref X1]) nX2
    have tw := tw.same sX2
    have eX1 := (tk_same sX2) _ _ eX1
    have wX2 : WV _ (.ref X2) (some (nu, [pl, (2 * pl)])) := ⟨X2, X1, rfl, eX2, eX1⟩
    have pX2 : WiP (nu, [pl, (2 * pl)]) := wip ⟨by omega, by omega⟩ ⟨by omega, by omega⟩ ⟨by omega, by omega⟩
    refine ⟨(show 2 ≤ sizeLine by decide), fun X3 nX3 => ?_⟩
    have sX3 := same_new (o := HO.tup [V.str "word", V.ref X2]) nX3
    have eX3 := new_at (o := HO.tup [V.str "word", V.ref X2]) nX3
    have tw := tw.same sX3
    have wX2 := wX2.tk (tk_same sX3)
    have lX3 : LetAt _ X3 (("word", [], some (nu, [pl, (2 * pl)])) : Lt) := ⟨.ref X2, eX3, wX2⟩
    refine ⟨y, E, F, X3, (one 1 0 (none) 0 (RA pl) 1), (("word", [], some (nu, [pl, (2 * pl)])) : Lt), rfl, tw.b, tw.nEF, lX3, (ltp0 pX2), (fun w e => by cases e; exact (show 1 < 2 by decide)), (show 1 ≤ 40 by decide), fun H4 an4 bb4 ha4 bA4 => ?_⟩
    rw [hear_word (by show (0 : Int) < nu; omega)] at ha4 bA4
    have ha4 : HandAt C _ y E F (one 1 0 (some (nu, [pl, (2 * pl)])) 0 (RA pl) 1) := ha4
    have bA4 : BAt _ an4 ([] : List Bt) := bA4
    have tk4 := bb4.tk tw.b
    have wX2 := wX2.tk (tk4)
    have lX3 := lX3.tk (tk4)
    have tw := tw.right bb4 ha4
    obtain ⟨dx5, vx5, i5, _⟩ := tw.a.in
    refine ⟨.ref x, rfl, x, dx5, _, rfl, i5, lkm, _, rfl, _, rfl, _, rfl, 2, _, rfl, rfl, .inl ⟨by decide, by decide⟩, (show 2 ≤ sizeLine by decide), fun X6 nX6 => ?_⟩
    have sX6 := same_new (o := HO.tup [V.int pl, V.int (2 * pl)]) nX6
    have eX6 := new_at (o := HO.tup [V.int pl, V.int (2 * pl)]) nX6
    have tw := tw.same sX6
    have wX2 := wX2.tk (tk_same sX6)
    have lX3 := lX3.tk (tk_same sX6)
    have bA4 := bA4.tk (tk_same sX6)
    refine ⟨(show 2 ≤ sizeLine by decide), fun X7 nX7 => ?_⟩
    have sX7 := same_new (o := HO.tup [V.int nu, V.ref X6]) nX7
    have eX7 := new_at (o := HO.tup [V.int nu, V.ref X6]) nX7
    have tw := tw.same sX7
    have wX2 := wX2.tk (tk_same sX7)
    have lX3 := lX3.tk (tk_same sX7)
    have bA4 := bA4.tk (tk_same sX7)
    have eX6 := (tk_same sX7) _ _ eX6
    have wX7 : WV _ (.ref X7) (some (nu, [pl, (2 * pl)])) := ⟨X7, X6, rfl, eX7, eX6⟩
    have pX7 : WiP (nu, [pl, (2 * pl)]) := wip ⟨by omega, by omega⟩ ⟨by omega, by omega⟩ ⟨by omega, by omega⟩
    refine ⟨(show 2 ≤ sizeLine by decide), fun X8 nX8 => ?_⟩
    have sX8 := same_new (o := HO.tup [V.str "word", V.ref X7]) nX8
    have eX8 := new_at (o := HO.tup [V.str "word", V.ref X7]) nX8
    have tw := tw.same sX8
    have wX2 := wX2.tk (tk_same sX8)
    have lX3 := lX3.tk (tk_same sX8)
    have bA4 := bA4.tk (tk_same sX8)
    have wX7 := wX7.tk (tk_same sX8)
    have lX8 : LetAt _ X8 (("word", [], some (nu, [pl, (2 * pl)])) : Lt) := ⟨.ref X7, eX8, wX7⟩
    refine ⟨x, D, T, X8, (one 0 0 (none) 0 (RA pl) 1), (("word", [], some (nu, [pl, (2 * pl)])) : Lt), rfl, tw.a, tw.nDT, lX8, (ltp0 pX7), (fun w e => by cases e; exact (show 0 < 2 by decide)), (show 1 ≤ 40 by decide), fun H9 an9 bb9 ha9 bA9 => ?_⟩
    rw [hear_word (by show (0 : Int) < nu; omega)] at ha9 bA9
    have ha9 : HandAt C _ x D T (one 0 0 (some (nu, [pl, (2 * pl)])) 0 (RA pl) 1) := ha9
    have bA9 : BAt _ an9 ([] : List Bt) := bA9
    have tk9 := bb9.tk tw.a
    have wX2 := wX2.tk (tk9)
    have lX3 := lX3.tk (tk9)
    have bA4 := bA4.tk (tk9)
    have wX7 := wX7.tk (tk9)
    have lX8 := lX8.tk (tk9)
    have tw := tw.left bb9 ha9
    obtain ⟨dx10, vx10, i10, _⟩ := tw.b.in
    refine ⟨.ref y, rfl, y, dx10, _, rfl, i10, lkm, y, E, F, (one 1 0 (some (nu, [pl, (2 * pl)])) 0 (RA pl) 1), rfl, tw.b, tw.nEF, tw.v, (show 1 ≤ 40 by decide), (fun w e => by cases e; exact (show 1 < 2 by decide)), fun H11 q11 bb11 ha11 st11 => ?_⟩
    obtain rfl : (2 * pl) = q11 := (st11.uniq (st_goal (sRA pl) (fun z => by cases z) rfl (.inl (lvB pl 1)))).symm
    have ha11 : HandAt C _ y E F (one 1 (2 * pl) (some (nu, [pl, (2 * pl)])) 0 (RA pl) 1) := ha11
    have tk11 := bb11.tk tw.b
    have wX2 := wX2.tk (tk11)
    have lX3 := lX3.tk (tk11)
    have bA4 := bA4.tk (tk11)
    have wX7 := wX7.tk (tk11)
    have lX8 := lX8.tk (tk11)
    have bA9 := bA9.tk (tk11)
    have tw := tw.right bb11 ha11
    refine ⟨_, rfl, 2, _, rfl, rfl, .inl ⟨by decide, by decide⟩, rfl, _, rfl, ?_⟩
    refine iteNS (show V.int (if (2 * pl) - 0 < 0 then -((2 * pl) - 0) else (2 * pl) - 0) = V.int (2 * pl) from congrArg V.int (by split <;> omega)) ?_
    obtain ⟨dx12, vx12, i12, _⟩ := tw.b.in
    refine ⟨.ref y, rfl, y, dx12, _, rfl, i12, lkm, y, E, F, (one 1 (2 * pl) (some (nu, [pl, (2 * pl)])) 0 (RA pl) 1), rfl, tw.b, (show 1 ≤ 40 by decide), (fun w e => by cases e; exact (show 1 < 2 by decide)), fun H13 g13 bs13 ss13 bA13 bL13 => ?_⟩
    obtain rfl : bs13 = ([(0, ("word", [], (some (nu, [pl, (2 * pl)]))))] : List Bt) := bL13.uniq (bt_of (sRA pl) (fun z => by cases z) (lk_none (sRA pl) (.inl rfl)))
    have tw := tw.same ss13
    have wX2 := wX2.tk (tk_same ss13)
    have lX3 := lX3.tk (tk_same ss13)
    have bA4 := bA4.tk (tk_same ss13)
    have wX7 := wX7.tk (tk_same ss13)
    have lX8 := lX8.tk (tk_same ss13)
    have bA9 := bA9.tk (tk_same ss13)
    show tNoPart _ _ _
    unfold tNoPart
    refine ⟨1, rfl, -1, rfl, cut_bat bA13 fun c14 Hc14 sc14 bc14 => ?_⟩
    have tw := tw.same sc14
    have wX2 := wX2.tk (tk_same sc14)
    have lX3 := lX3.tk (tk_same sc14)
    have bA4 := bA4.tk (tk_same sc14)
    have wX7 := wX7.tk (tk_same sc14)
    have lX8 := lX8.tk (tk_same sc14)
    have bA9 := bA9.tk (tk_same sc14)
    refine ⟨(show 0 ≤ sizeLine by decide), fun X15 nX15 => ?_⟩
    have sX15 := same_new (o := HO.tup []) nX15
    have eX15 := new_at (o := HO.tup []) nX15
    have tw := tw.same sX15
    have wX2 := wX2.tk (tk_same sX15)
    have lX3 := lX3.tk (tk_same sX15)
    have bA4 := bA4.tk (tk_same sX15)
    have wX7 := wX7.tk (tk_same sX15)
    have lX8 := lX8.tk (tk_same sX15)
    have bA9 := bA9.tk (tk_same sX15)
    have bc14 := bc14.tk (tk_same sX15)
    have bX15 : BAt _ X15 ([] : List Bt) := ⟨[], eX15, trivial⟩
    refine ⟨_, _, dp_bat bc14, dp_bat bX15, shb _ trivial, shb _ trivial, false, nqb ([] : List Bt) trivial, iteF ?_⟩
    obtain ⟨dx16, vx16, i16, _⟩ := tw.a.in
    refine ⟨.ref x, rfl, x, dx16, _, rfl, i16, lkm, x, D, T, (one 0 0 (some (nu, [pl, (2 * pl)])) 0 (RA pl) 1), rfl, tw.a, tw.nDT, tw.u, (show 1 ≤ 40 by decide), (fun w e => by cases e; exact (show 0 < 2 by decide)), fun H17 q17 bb17 ha17 st17 => ?_⟩
    obtain rfl : pl = q17 := (st17.uniq (st_goal (sRA pl) (g := pl) (fun z => by cases z) rfl (.inr fun x hx => by rw [atA]; exact decide_eq_true (by omega)))).symm
    have ha17 : HandAt C _ x D T (one 0 pl (some (nu, [pl, (2 * pl)])) 0 (RA pl) 1) := ha17
    have tk17 := bb17.tk tw.a
    have wX2 := wX2.tk (tk17)
    have lX3 := lX3.tk (tk17)
    have bA4 := bA4.tk (tk17)
    have wX7 := wX7.tk (tk17)
    have lX8 := lX8.tk (tk17)
    have bA9 := bA9.tk (tk17)
    have tw := tw.left bb17 ha17
    refine ⟨_, rfl, rfl, _, rfl, ?_⟩
    refine iteNS (show V.int (if pl - 0 < 0 then -(pl - 0) else pl - 0) = V.int pl from congrArg V.int (by split <;> omega)) ?_
    refine ⟨_, rfl, _, 1, rfl, rfl, _, rfl, 2, _, rfl, rfl, .inl ⟨by decide, by decide⟩, _, rfl, 2, _, rfl, rfl, .inl ⟨by decide, by decide⟩, (show 2 ≤ sizeLine by decide), fun X18 nX18 => ?_⟩
    have sX18 := same_new (o := HO.tup [V.int (2 * pl), V.int (2 * pl)]) nX18
    have eX18 := new_at (o := HO.tup [V.int (2 * pl), V.int (2 * pl)]) nX18
    have tw := tw.same sX18
    have wX2 := wX2.tk (tk_same sX18)
    have lX3 := lX3.tk (tk_same sX18)
    have bA4 := bA4.tk (tk_same sX18)
    have wX7 := wX7.tk (tk_same sX18)
    have lX8 := lX8.tk (tk_same sX18)
    have bA9 := bA9.tk (tk_same sX18)
    refine ⟨(show 2 ≤ sizeLine by decide), fun X19 nX19 => ?_⟩
    have sX19 := same_new (o := HO.tup [V.int (nu + 1), V.ref X18]) nX19
    have eX19 := new_at (o := HO.tup [V.int (nu + 1), V.ref X18]) nX19
    have tw := tw.same sX19
    have wX2 := wX2.tk (tk_same sX19)
    have lX3 := lX3.tk (tk_same sX19)
    have bA4 := bA4.tk (tk_same sX19)
    have wX7 := wX7.tk (tk_same sX19)
    have lX8 := lX8.tk (tk_same sX19)
    have bA9 := bA9.tk (tk_same sX19)
    have eX18 := (tk_same sX19) _ _ eX18
    have wX19 : WV _ (.ref X19) (some ((nu + 1), [(2 * pl), (2 * pl)])) := ⟨X19, X18, rfl, eX19, eX18⟩
    have pX19 : WiP ((nu + 1), [(2 * pl), (2 * pl)]) := wip ⟨by omega, by omega⟩ ⟨by omega, by omega⟩ ⟨by omega, by omega⟩
    try dsimp only [List.set]
    obtain ⟨dx20, vx20, i20, _⟩ := tw.a.in
    refine ⟨.ref x, rfl, x, dx20, _, rfl, i20, lkm, _, rfl, (show 2 ≤ sizeLine by decide), fun X21 nX21 => ?_⟩
    have sX21 := same_new (o := HO.tup [V.str "word", V.ref X19]) nX21
    have eX21 := new_at (o := HO.tup [V.str "word", V.ref X19]) nX21
    have tw := tw.same sX21
    have wX2 := wX2.tk (tk_same sX21)
    have lX3 := lX3.tk (tk_same sX21)
    have bA4 := bA4.tk (tk_same sX21)
    have wX7 := wX7.tk (tk_same sX21)
    have lX8 := lX8.tk (tk_same sX21)
    have bA9 := bA9.tk (tk_same sX21)
    have wX19 := wX19.tk (tk_same sX21)
    have lX21 : LetAt _ X21 (("word", [], some ((nu + 1), [(2 * pl), (2 * pl)])) : Lt) := ⟨.ref X19, eX21, wX19⟩
    refine ⟨x, D, T, X21, (one 0 pl (some (nu, [pl, (2 * pl)])) 0 (RA pl) 1), (("word", [], some ((nu + 1), [(2 * pl), (2 * pl)])) : Lt), rfl, tw.a, tw.nDT, lX21, (ltp0 pX19), (fun w e => by cases e; exact (show 0 < 2 by decide)), (show 1 ≤ 40 by decide), fun H22 an22 bb22 ha22 bA22 => ?_⟩
    rw [hear_word (by show (nu : Int) < nu + 1; omega)] at ha22 bA22
    have ha22 : HandAt C _ x D T (one 0 pl ((some ((nu + 1), [(2 * pl), (2 * pl)]))) 0 (RA pl) 1) := ha22
    have bA22 : BAt _ an22 ([] : List Bt) := bA22
    have tk22 := bb22.tk tw.a
    have wX2 := wX2.tk (tk22)
    have lX3 := lX3.tk (tk22)
    have bA4 := bA4.tk (tk22)
    have wX7 := wX7.tk (tk22)
    have lX8 := lX8.tk (tk22)
    have bA9 := bA9.tk (tk22)
    have wX19 := wX19.tk (tk22)
    have lX21 := lX21.tk (tk22)
    have tw := tw.left bb22 ha22
    obtain ⟨dx23, vx23, i23, _⟩ := tw.a.in
    refine ⟨.ref x, rfl, x, dx23, _, rfl, i23, lkm, x, D, T, (one 0 pl ((some ((nu + 1), [(2 * pl), (2 * pl)]))) 0 (RA pl) 1), rfl, tw.a, (show 1 ≤ 40 by decide), (fun w e => by cases e; exact (show 0 < 2 by decide)), fun H24 g24 bs24 ss24 bA24 bL24 => ?_⟩
    obtain rfl : bs24 = ([(1, ("ask", [0, 1], (some ((nu + 1), [(2 * pl), (2 * pl)])))), (1, ("word", [], (some ((nu + 1), [(2 * pl), (2 * pl)]))))] : List Bt) := bL24.uniq (by have := bt_of (i := 0) (p := pl) (w := (some ((nu + 1), [(2 * pl), (2 * pl)]))) (n := 0) (q := RA pl) (c := 1) (sRA pl) (fun z => by cases z) (lk_one (sRA pl) (by show (2 * pl : Int) ≠ pl; omega) (lvA pl 1) (by rw [show Hd.there (one 0 pl ((some ((nu + 1), [(2 * pl), (2 * pl)]))) 0 (RA pl) 1) = pl + 1 from if_pos (show pl < 2 * pl by omega), atA]; exact decide_eq_false (by omega))); rw [asks_one] at this; exact this)
    have tw := tw.same ss24
    have wX2 := wX2.tk (tk_same ss24)
    have lX3 := lX3.tk (tk_same ss24)
    have bA4 := bA4.tk (tk_same ss24)
    have wX7 := wX7.tk (tk_same ss24)
    have lX8 := lX8.tk (tk_same ss24)
    have bA9 := bA9.tk (tk_same ss24)
    have wX19 := wX19.tk (tk_same ss24)
    have lX21 := lX21.tk (tk_same ss24)
    have bA22 := bA22.tk (tk_same ss24)
    try dsimp only [List.set]
    refine ⟨_, rfl, _, rfl, (show 4 ≤ sizeLine by decide), fun X25 nX25 => ?_⟩
    have sX25 := same_new (o := HO.tup [V.str "ask", V.int 0, V.int 1, V.ref X19]) nX25
    have eX25 := new_at (o := HO.tup [V.str "ask", V.int 0, V.int 1, V.ref X19]) nX25
    have tw := tw.same sX25
    have wX2 := wX2.tk (tk_same sX25)
    have lX3 := lX3.tk (tk_same sX25)
    have bA4 := bA4.tk (tk_same sX25)
    have wX7 := wX7.tk (tk_same sX25)
    have lX8 := lX8.tk (tk_same sX25)
    have bA9 := bA9.tk (tk_same sX25)
    have wX19 := wX19.tk (tk_same sX25)
    have lX21 := lX21.tk (tk_same sX25)
    have bA22 := bA22.tk (tk_same sX25)
    have bA24 := bA24.tk (tk_same sX25)
    have lX25 : LetAt _ X25 (("ask", [0, 1], some ((nu + 1), [(2 * pl), (2 * pl)])) : Lt) := ⟨.ref X19, eX25, wX19⟩
    refine ⟨(show 2 ≤ sizeLine by decide), fun X26 nX26 => ?_⟩
    have sX26 := same_new (o := HO.tup [V.int 1, V.ref X25]) nX26
    have eX26 := new_at (o := HO.tup [V.int 1, V.ref X25]) nX26
    have tw := tw.same sX26
    have wX2 := wX2.tk (tk_same sX26)
    have lX3 := lX3.tk (tk_same sX26)
    have bA4 := bA4.tk (tk_same sX26)
    have wX7 := wX7.tk (tk_same sX26)
    have lX8 := lX8.tk (tk_same sX26)
    have bA9 := bA9.tk (tk_same sX26)
    have wX19 := wX19.tk (tk_same sX26)
    have lX21 := lX21.tk (tk_same sX26)
    have bA22 := bA22.tk (tk_same sX26)
    have bA24 := bA24.tk (tk_same sX26)
    have lX25 := lX25.tk (tk_same sX26)
    have rX26 : PrAt _ X26 ((1, (("ask", [0, 1], some ((nu + 1), [(2 * pl), (2 * pl)])) : Lt)) : Bt) := ⟨X25, eX26, lX25⟩
    refine ⟨_, rfl, (show 2 ≤ sizeLine by decide), fun X27 nX27 => ?_⟩
    have sX27 := same_new (o := HO.tup [V.str "word", V.ref X19]) nX27
    have eX27 := new_at (o := HO.tup [V.str "word", V.ref X19]) nX27
    have tw := tw.same sX27
    have wX2 := wX2.tk (tk_same sX27)
    have lX3 := lX3.tk (tk_same sX27)
    have bA4 := bA4.tk (tk_same sX27)
    have wX7 := wX7.tk (tk_same sX27)
    have lX8 := lX8.tk (tk_same sX27)
    have bA9 := bA9.tk (tk_same sX27)
    have wX19 := wX19.tk (tk_same sX27)
    have lX21 := lX21.tk (tk_same sX27)
    have bA22 := bA22.tk (tk_same sX27)
    have bA24 := bA24.tk (tk_same sX27)
    have rX26 := rX26.tk (tk_same sX27)
    have lX27 : LetAt _ X27 (("word", [], some ((nu + 1), [(2 * pl), (2 * pl)])) : Lt) := ⟨.ref X19, eX27, wX19⟩
    refine ⟨(show 2 ≤ sizeLine by decide), fun X28 nX28 => ?_⟩
    have sX28 := same_new (o := HO.tup [V.int 1, V.ref X27]) nX28
    have eX28 := new_at (o := HO.tup [V.int 1, V.ref X27]) nX28
    have tw := tw.same sX28
    have wX2 := wX2.tk (tk_same sX28)
    have lX3 := lX3.tk (tk_same sX28)
    have bA4 := bA4.tk (tk_same sX28)
    have wX7 := wX7.tk (tk_same sX28)
    have lX8 := lX8.tk (tk_same sX28)
    have bA9 := bA9.tk (tk_same sX28)
    have wX19 := wX19.tk (tk_same sX28)
    have lX21 := lX21.tk (tk_same sX28)
    have bA22 := bA22.tk (tk_same sX28)
    have bA24 := bA24.tk (tk_same sX28)
    have rX26 := rX26.tk (tk_same sX28)
    have lX27 := lX27.tk (tk_same sX28)
    have rX28 : PrAt _ X28 ((1, (("word", [], some ((nu + 1), [(2 * pl), (2 * pl)])) : Lt)) : Bt) := ⟨X27, eX28, lX27⟩
    refine ⟨(show 2 ≤ sizeLine by decide), fun X29 nX29 => ?_⟩
    have sX29 := same_new (o := HO.tup [V.ref X26, V.ref X28]) nX29
    have eX29 := new_at (o := HO.tup [V.ref X26, V.ref X28]) nX29
    have tw := tw.same sX29
    have wX2 := wX2.tk (tk_same sX29)
    have lX3 := lX3.tk (tk_same sX29)
    have bA4 := bA4.tk (tk_same sX29)
    have wX7 := wX7.tk (tk_same sX29)
    have lX8 := lX8.tk (tk_same sX29)
    have bA9 := bA9.tk (tk_same sX29)
    have wX19 := wX19.tk (tk_same sX29)
    have lX21 := lX21.tk (tk_same sX29)
    have bA22 := bA22.tk (tk_same sX29)
    have bA24 := bA24.tk (tk_same sX29)
    have rX26 := rX26.tk (tk_same sX29)
    have rX28 := rX28.tk (tk_same sX29)
    have bX29 : BAt _ X29 ([(1, (("ask", [0, 1], some ((nu + 1), [(2 * pl), (2 * pl)])) : Lt)), (1, (("word", [], some ((nu + 1), [(2 * pl), (2 * pl)])) : Lt))] : List Bt) := ⟨[X26, X28], eX29, ⟨rX26, ⟨rX28, trivial⟩⟩⟩
    refine ⟨_, _, dp_bat bA24, dp_bat bX29, shb _ ⟨.inl rfl, .inr (.inr rfl), trivial⟩, shb _ ⟨.inl rfl, .inr (.inr rfl), trivial⟩, false, nqb ([(1, ("ask", [0, 1], (some ((nu + 1), [(2 * pl), (2 * pl)])))), (1, ("word", [], (some ((nu + 1), [(2 * pl), (2 * pl)]))))] : List Bt) ⟨.inl rfl, .inr (.inr rfl), trivial⟩, iteF ?_⟩
    obtain ⟨dx30, vx30, i30, _⟩ := tw.b.in
    obtain ⟨P31, as31, eG31, L31, eP31, lF31⟩ := pr_in bA24
    refine ⟨.ref y, rfl, y, dx30, _, rfl, i30, lkm, .ref g24, rfl, g24, _, 0, _, rfl, rfl, .inl (.inl eG31), atI_nat (j := 0) rfl, P31, _, 1, _, rfl, rfl, .inl (.inl eP31), atI_nat (j := 1) rfl, y, E, F, L31, (one 1 (2 * pl) (some (nu, [pl, (2 * pl)])) 0 (RA pl) 1), (("ask", [0, 1], (some ((nu + 1), [(2 * pl), (2 * pl)]))) : Lt), rfl, tw.b, tw.nEF, lF31, (ltp2 (.inl rfl) ⟨by decide, by decide⟩ ⟨by decide, by decide⟩ (fun w e => by cases e; exact pX19)), (fun w e => by cases e; exact (show 1 < 2 by decide)), (show 1 ≤ 40 by decide), fun H32 an32 bb32 ha32 bA32 => ?_⟩
    rw [hear_give (w := (some (nu, [pl, (2 * pl)]))) (o := (some ((nu + 1), [(2 * pl), (2 * pl)]))) (v := (some ((nu + 1), [(2 * pl), (2 * pl)]))) (sRA pl) (.inl ⟨rfl, by show (nu : Int) < nu + 1; omega⟩) (by decide) (lvB pl 1) (by rw [atB1]; exact decide_eq_true (by omega))] at ha32 bA32
    have ha32 : HandAt C _ y E F (one 1 (2 * pl) ((some ((nu + 1), [(2 * pl), (2 * pl)]))) 0 (RA pl) 2) := ha32
    have bA32 : BAt _ an32 ([(0, ("leave", [0, 2], (some ((nu + 1), [(2 * pl), (2 * pl)]))))] : List Bt) := bA32
    have tk32 := bb32.tk tw.b
    have wX2 := wX2.tk (tk32)
    have lX3 := lX3.tk (tk32)
    have bA4 := bA4.tk (tk32)
    have wX7 := wX7.tk (tk32)
    have lX8 := lX8.tk (tk32)
    have bA9 := bA9.tk (tk32)
    have wX19 := wX19.tk (tk32)
    have lX21 := lX21.tk (tk32)
    have bA22 := bA22.tk (tk32)
    have bA24 := bA24.tk (tk32)
    have tw := tw.right bb32 ha32
    try dsimp only [List.set]
    refine ⟨_, rfl, _, rfl, (show 4 ≤ sizeLine by decide), fun X33 nX33 => ?_⟩
    have sX33 := same_new (o := HO.tup [V.str "leave", V.int 0, V.int 2, V.ref X19]) nX33
    have eX33 := new_at (o := HO.tup [V.str "leave", V.int 0, V.int 2, V.ref X19]) nX33
    have tw := tw.same sX33
    have wX2 := wX2.tk (tk_same sX33)
    have lX3 := lX3.tk (tk_same sX33)
    have bA4 := bA4.tk (tk_same sX33)
    have wX7 := wX7.tk (tk_same sX33)
    have lX8 := lX8.tk (tk_same sX33)
    have bA9 := bA9.tk (tk_same sX33)
    have wX19 := wX19.tk (tk_same sX33)
    have lX21 := lX21.tk (tk_same sX33)
    have bA22 := bA22.tk (tk_same sX33)
    have bA32 := bA32.tk (tk_same sX33)
    have lX33 : LetAt _ X33 (("leave", [0, 2], some ((nu + 1), [(2 * pl), (2 * pl)])) : Lt) := ⟨.ref X19, eX33, wX19⟩
    refine ⟨(show 2 ≤ sizeLine by decide), fun X34 nX34 => ?_⟩
    have sX34 := same_new (o := HO.tup [V.int 0, V.ref X33]) nX34
    have eX34 := new_at (o := HO.tup [V.int 0, V.ref X33]) nX34
    have tw := tw.same sX34
    have wX2 := wX2.tk (tk_same sX34)
    have lX3 := lX3.tk (tk_same sX34)
    have bA4 := bA4.tk (tk_same sX34)
    have wX7 := wX7.tk (tk_same sX34)
    have lX8 := lX8.tk (tk_same sX34)
    have bA9 := bA9.tk (tk_same sX34)
    have wX19 := wX19.tk (tk_same sX34)
    have lX21 := lX21.tk (tk_same sX34)
    have bA22 := bA22.tk (tk_same sX34)
    have bA32 := bA32.tk (tk_same sX34)
    have lX33 := lX33.tk (tk_same sX34)
    have rX34 : PrAt _ X34 ((0, (("leave", [0, 2], some ((nu + 1), [(2 * pl), (2 * pl)])) : Lt)) : Bt) := ⟨X33, eX34, lX33⟩
    refine ⟨(show 1 ≤ sizeLine by decide), fun X35 nX35 => ?_⟩
    have sX35 := same_new (o := HO.tup [V.ref X34]) nX35
    have eX35 := new_at (o := HO.tup [V.ref X34]) nX35
    have tw := tw.same sX35
    have wX2 := wX2.tk (tk_same sX35)
    have lX3 := lX3.tk (tk_same sX35)
    have bA4 := bA4.tk (tk_same sX35)
    have wX7 := wX7.tk (tk_same sX35)
    have lX8 := lX8.tk (tk_same sX35)
    have bA9 := bA9.tk (tk_same sX35)
    have wX19 := wX19.tk (tk_same sX35)
    have lX21 := lX21.tk (tk_same sX35)
    have bA22 := bA22.tk (tk_same sX35)
    have bA32 := bA32.tk (tk_same sX35)
    have rX34 := rX34.tk (tk_same sX35)
    have bX35 : BAt _ X35 ([(0, (("leave", [0, 2], some ((nu + 1), [(2 * pl), (2 * pl)])) : Lt))] : List Bt) := ⟨[X34], eX35, ⟨rX34, trivial⟩⟩
    refine ⟨_, _, dp_bat bA32, dp_bat bX35, shb _ ⟨.inr (.inl rfl), trivial⟩, shb _ ⟨.inr (.inl rfl), trivial⟩, false, nqb ([(0, ("leave", [0, 2], (some ((nu + 1), [(2 * pl), (2 * pl)]))))] : List Bt) ⟨.inr (.inl rfl), trivial⟩, iteF ?_⟩
    refine ⟨_, rfl, _, rfl, (show 2 ≤ sizeLine by decide), fun X36 nX36 => ?_⟩
    have sX36 := same_new (o := HO.tup [V.ref x, V.ref y]) nX36
    have eX36 := new_at (o := HO.tup [V.ref x, V.ref y]) nX36
    have tw := tw.same sX36
    have wX2 := wX2.tk (tk_same sX36)
    have lX3 := lX3.tk (tk_same sX36)
    have bA4 := bA4.tk (tk_same sX36)
    have wX7 := wX7.tk (tk_same sX36)
    have lX8 := lX8.tk (tk_same sX36)
    have bA9 := bA9.tk (tk_same sX36)
    have wX19 := wX19.tk (tk_same sX36)
    have lX21 := lX21.tk (tk_same sX36)
    have bA22 := bA22.tk (tk_same sX36)
    obtain ⟨dxa, vxa, ixa, _⟩ := tw.a.in
    obtain ⟨dya, vya, iya, _⟩ := tw.b.in
    refine ⟨X36, rfl, ⟨_, .inl (.inl eX36)⟩, fun D9 n9 => lc_it (walk_tup (xs := [V.ref x, V.ref y])) (fun j H' => Same _ H' ∧ H' D9 = some (.lst (([false, false].take j).map V.bl))) ⟨same_new n9, upd_same⟩ (fun j H' _ z => .inl (.inl (z.1 _ _ eX36))) (fun j u H7 H8 hj yy zz => ?_) (fun H7 yy => ?_)⟩
    · obtain ⟨sm, eD⟩ := yy
      obtain ⟨rfl, gv⟩ := zz
      have tw := tw.same sm
      match j, hj, gv with
      | 0, _, gv =>
        obtain rfl : u = .ref x := (Option.some.inj gv).symm
        refine ⟨rfl, .ref x, rfl, x, dxa, _, rfl, sm _ _ ixa, lkm, x, D, T, (one 0 pl ((some ((nu + 1), [(2 * pl), (2 * pl)]))) 0 (RA pl) 1), 0, RA pl, 1, rfl, tw.a, look_one1, sRA pl, fun H9 s9 => ⟨_, s9 _ _ eD, by decide, same_over (sm.trans s9) n9, ?_⟩⟩
        rw [upd_same]
        rfl
      | 1, _, gv =>
        obtain rfl : u = .ref y := (Option.some.inj gv).symm
        refine ⟨rfl, .ref y, rfl, y, dya, _, rfl, sm _ _ iya, lkm, y, E, F, (one 1 (2 * pl) ((some ((nu + 1), [(2 * pl), (2 * pl)]))) 0 (RA pl) 2), 0, RA pl, 2, rfl, tw.b, look_one1, sRA pl, fun H9 s9 => ⟨_, s9 _ _ eD, by decide, same_over (sm.trans s9) n9, ?_⟩⟩
        rw [upd_same]
        rfl
    obtain ⟨sm, eD⟩ := yy
    have eD : _ = some (HO.lst [V.bl false, .bl false]) := eD
    have tw := tw.same sm
    have wX2 := wX2.tk (tk_same sm)
    have lX3 := lX3.tk (tk_same sm)
    have bA4 := bA4.tk (tk_same sm)
    have wX7 := wX7.tk (tk_same sm)
    have lX8 := lX8.tk (tk_same sm)
    have bA9 := bA9.tk (tk_same sm)
    have wX19 := wX19.tk (tk_same sm)
    have lX21 := lX21.tk (tk_same sm)
    have bA22 := bA22.tk (tk_same sm)
    have eX36 := (tk_same sm) _ _ eX36
    refine ⟨(show 1 ≤ sizeLine by decide), fun X37 nX37 => ?_⟩
    have sX37 := same_new (o := HO.lst [V.bl false]) nX37
    have eX37 := new_at (o := HO.lst [V.bl false]) nX37
    have tw := tw.same sX37
    have wX2 := wX2.tk (tk_same sX37)
    have lX3 := lX3.tk (tk_same sX37)
    have bA4 := bA4.tk (tk_same sX37)
    have wX7 := wX7.tk (tk_same sX37)
    have lX8 := lX8.tk (tk_same sX37)
    have bA9 := bA9.tk (tk_same sX37)
    have wX19 := wX19.tk (tk_same sX37)
    have lX21 := lX21.tk (tk_same sX37)
    have bA22 := bA22.tk (tk_same sX37)
    have eD := sX37 _ _ eD
    refine ⟨X37, 2, [V.bl false], rfl, rfl, eX37, by decide, by decide, (show 1 * 2 ≤ sizeLine by decide), fun Z nZ => ?_⟩
    have sZ := same_new (o := HO.lst [V.bl false, .bl false]) nZ
    have eZ := new_at (o := HO.lst [V.bl false, .bl false]) nZ
    have tw := tw.same sZ
    have wX2 := wX2.tk (tk_same sZ)
    have lX3 := lX3.tk (tk_same sZ)
    have bA4 := bA4.tk (tk_same sZ)
    have wX7 := wX7.tk (tk_same sZ)
    have lX8 := lX8.tk (tk_same sZ)
    have bA9 := bA9.tk (tk_same sZ)
    have wX19 := wX19.tk (tk_same sZ)
    have lX21 := lX21.tk (tk_same sZ)
    have bA22 := bA22.tk (tk_same sZ)
    have eD := sZ _ _ eD
    have eX37 := sZ _ _ eX37
    refine ⟨.list [.bool false, .bool false], .list [.bool false, .bool false], .lst (.inl (.inl eD)) (.cons (.bl _) (.cons (.bl _) .nil)), .lst (.inl (.inl eZ)) (.cons (.bl _) (.cons (.bl _) .nil)), rfl, rfl, false, nqd rfl, iteF ?_⟩
    refine ⟨_, rfl, _, 2, rfl, rfl, _, rfl, (show 2 ≤ sizeLine by decide), fun X38 nX38 => ?_⟩
    have sX38 := same_new (o := HO.tup [V.int pl, V.int 0]) nX38
    have eX38 := new_at (o := HO.tup [V.int pl, V.int 0]) nX38
    have tw := tw.same sX38
    have wX2 := wX2.tk (tk_same sX38)
    have lX3 := lX3.tk (tk_same sX38)
    have bA4 := bA4.tk (tk_same sX38)
    have wX7 := wX7.tk (tk_same sX38)
    have lX8 := lX8.tk (tk_same sX38)
    have bA9 := bA9.tk (tk_same sX38)
    have wX19 := wX19.tk (tk_same sX38)
    have lX21 := lX21.tk (tk_same sX38)
    have bA22 := bA22.tk (tk_same sX38)
    refine ⟨(show 2 ≤ sizeLine by decide), fun X39 nX39 => ?_⟩
    have sX39 := same_new (o := HO.tup [V.int (nu + 2), V.ref X38]) nX39
    have eX39 := new_at (o := HO.tup [V.int (nu + 2), V.ref X38]) nX39
    have tw := tw.same sX39
    have wX2 := wX2.tk (tk_same sX39)
    have lX3 := lX3.tk (tk_same sX39)
    have bA4 := bA4.tk (tk_same sX39)
    have wX7 := wX7.tk (tk_same sX39)
    have lX8 := lX8.tk (tk_same sX39)
    have bA9 := bA9.tk (tk_same sX39)
    have wX19 := wX19.tk (tk_same sX39)
    have lX21 := lX21.tk (tk_same sX39)
    have bA22 := bA22.tk (tk_same sX39)
    have eX38 := (tk_same sX39) _ _ eX38
    have wX39 : WV _ (.ref X39) (some ((nu + 2), [pl, 0])) := ⟨X39, X38, rfl, eX39, eX38⟩
    have pX39 : WiP ((nu + 2), [pl, 0]) := wip ⟨by omega, by omega⟩ ⟨by omega, by omega⟩ ⟨by omega, by omega⟩
    try dsimp only [List.set]
    obtain ⟨dx40, vx40, i40, _⟩ := tw.b.in
    refine ⟨.ref y, rfl, y, dx40, _, rfl, i40, lkm, _, rfl, (show 2 ≤ sizeLine by decide), fun X41 nX41 => ?_⟩
    have sX41 := same_new (o := HO.tup [V.str "word", V.ref X39]) nX41
    have eX41 := new_at (o := HO.tup [V.str "word", V.ref X39]) nX41
    have tw := tw.same sX41
    have wX2 := wX2.tk (tk_same sX41)
    have lX3 := lX3.tk (tk_same sX41)
    have bA4 := bA4.tk (tk_same sX41)
    have wX7 := wX7.tk (tk_same sX41)
    have lX8 := lX8.tk (tk_same sX41)
    have bA9 := bA9.tk (tk_same sX41)
    have wX19 := wX19.tk (tk_same sX41)
    have lX21 := lX21.tk (tk_same sX41)
    have bA22 := bA22.tk (tk_same sX41)
    have wX39 := wX39.tk (tk_same sX41)
    have lX41 : LetAt _ X41 (("word", [], some ((nu + 2), [pl, 0])) : Lt) := ⟨.ref X39, eX41, wX39⟩
    refine ⟨y, E, F, X41, (one 1 (2 * pl) ((some ((nu + 1), [(2 * pl), (2 * pl)]))) 0 (RA pl) 2), (("word", [], some ((nu + 2), [pl, 0])) : Lt), rfl, tw.b, tw.nEF, lX41, (ltp0 pX39), (fun w e => by cases e; exact (show 1 < 2 by decide)), (show 1 ≤ 40 by decide), fun H42 an42 bb42 ha42 bA42 => ?_⟩
    rw [hear_word (by show (nu + 1 : Int) < nu + 2; omega)] at ha42 bA42
    have ha42 : HandAt C _ y E F (one 1 (2 * pl) ((some ((nu + 2), [pl, 0]))) 0 (RA pl) 2) := ha42
    have bA42 : BAt _ an42 ([] : List Bt) := bA42
    have tk42 := bb42.tk tw.b
    have wX2 := wX2.tk (tk42)
    have lX3 := lX3.tk (tk42)
    have bA4 := bA4.tk (tk42)
    have wX7 := wX7.tk (tk42)
    have lX8 := lX8.tk (tk42)
    have bA9 := bA9.tk (tk42)
    have wX19 := wX19.tk (tk42)
    have lX21 := lX21.tk (tk42)
    have bA22 := bA22.tk (tk42)
    have wX39 := wX39.tk (tk42)
    have lX41 := lX41.tk (tk42)
    have tw := tw.right bb42 ha42
    obtain ⟨dx43, vx43, i43, _⟩ := tw.b.in
    refine ⟨.ref y, rfl, y, dx43, _, rfl, i43, lkm, y, E, F, (one 1 (2 * pl) ((some ((nu + 2), [pl, 0]))) 0 (RA pl) 2), rfl, tw.b, tw.nEF, tw.v, (show 1 ≤ 40 by decide), (fun w e => by cases e; exact (show 1 < 2 by decide)), fun H44 q44 bb44 ha44 st44 => ?_⟩
    obtain rfl : pl = q44 := (st44.uniq (st_down (sRA pl) (fun z => by cases z) (g := 0) rfl (by omega) (by omega) (fun x hx => by rw [atB1]; exact decide_eq_true hx) (lvB pl 2) (by rw [atB1]; exact decide_eq_false (by omega)))).symm
    have ha44 : HandAt C _ y E F (one 1 pl ((some ((nu + 2), [pl, 0]))) 0 (RA pl) 2) := ha44
    have tk44 := bb44.tk tw.b
    have wX2 := wX2.tk (tk44)
    have lX3 := lX3.tk (tk44)
    have bA4 := bA4.tk (tk44)
    have wX7 := wX7.tk (tk44)
    have lX8 := lX8.tk (tk44)
    have bA9 := bA9.tk (tk44)
    have wX19 := wX19.tk (tk44)
    have lX21 := lX21.tk (tk44)
    have bA22 := bA22.tk (tk44)
    have wX39 := wX39.tk (tk44)
    have lX41 := lX41.tk (tk44)
    have bA42 := bA42.tk (tk44)
    have tw := tw.right bb44 ha44
    refine ⟨_, rfl, rfl, _, rfl, ?_⟩
    refine iteNS (show V.int (if pl - (2 * pl) < 0 then -(pl - (2 * pl)) else pl - (2 * pl)) = V.int pl from congrArg V.int (by split <;> omega)) ?_
    obtain ⟨dx45, vx45, i45, _⟩ := tw.b.in
    refine ⟨.ref y, rfl, y, dx45, _, rfl, i45, lkm, y, E, F, (one 1 pl ((some ((nu + 2), [pl, 0]))) 0 (RA pl) 2), rfl, tw.b, (show 1 ≤ 40 by decide), (fun w e => by cases e; exact (show 1 < 2 by decide)), fun H46 g46 ys46 ss46 eg46 yL46 => ?_⟩
    obtain rfl : ys46 = ([0] : List Int) := yL46.uniq (lk_one (sRA pl) (by show (0 : Int) ≠ pl; omega) (lvB pl 2) (by rw [show Hd.there (one 1 pl ((some ((nu + 2), [pl, 0]))) 0 (RA pl) 2) = pl - 1 from if_neg (show ¬ pl < 0 by omega), atB1]; exact decide_eq_false (by omega)))
    have tw := tw.same ss46
    have wX2 := wX2.tk (tk_same ss46)
    have lX3 := lX3.tk (tk_same ss46)
    have bA4 := bA4.tk (tk_same ss46)
    have wX7 := wX7.tk (tk_same ss46)
    have lX8 := lX8.tk (tk_same ss46)
    have bA9 := bA9.tk (tk_same ss46)
    have wX19 := wX19.tk (tk_same ss46)
    have lX21 := lX21.tk (tk_same ss46)
    have bA22 := bA22.tk (tk_same ss46)
    have wX39 := wX39.tk (tk_same ss46)
    have lX41 := lX41.tk (tk_same ss46)
    have bA42 := bA42.tk (tk_same ss46)
    have eg46 : _ = some (HO.tup ([V.int 0] : List V)) := eg46
    refine ⟨(show 1 ≤ sizeLine by decide), fun X47 nX47 => ?_⟩
    have sX47 := same_new (o := HO.tup [V.int 0]) nX47
    have eX47 := new_at (o := HO.tup [V.int 0]) nX47
    have tw := tw.same sX47
    have wX2 := wX2.tk (tk_same sX47)
    have lX3 := lX3.tk (tk_same sX47)
    have bA4 := bA4.tk (tk_same sX47)
    have wX7 := wX7.tk (tk_same sX47)
    have lX8 := lX8.tk (tk_same sX47)
    have bA9 := bA9.tk (tk_same sX47)
    have wX19 := wX19.tk (tk_same sX47)
    have lX21 := lX21.tk (tk_same sX47)
    have bA22 := bA22.tk (tk_same sX47)
    have wX39 := wX39.tk (tk_same sX47)
    have lX41 := lX41.tk (tk_same sX47)
    have bA42 := bA42.tk (tk_same sX47)
    have eg46 := (tk_same sX47) _ _ eg46
    refine ⟨_, _, dp_tup (xs := [0]) (.inl (.inl eg46)), dp_tup (xs := [0]) (.inl (.inl eX47)), rfl, rfl, false, nqd rfl, iteF ?_⟩
    obtain ⟨dx48, vx48, i48, _⟩ := tw.b.in
    refine ⟨.ref y, rfl, y, dx48, _, rfl, i48, lkm, y, E, F, (one 1 pl ((some ((nu + 2), [pl, 0]))) 0 (RA pl) 2), rfl, tw.b, (show 1 ≤ 40 by decide), (fun w e => by cases e; exact (show 1 < 2 by decide)), fun H49 g49 bs49 ss49 bA49 bL49 => ?_⟩
    obtain rfl : bs49 = ([(0, ("ask", [0, 2], (some ((nu + 2), [pl, 0])))), (0, ("word", [], (some ((nu + 2), [pl, 0]))))] : List Bt) := bL49.uniq (by have := bt_of (i := 1) (p := pl) (w := (some ((nu + 2), [pl, 0]))) (n := 0) (q := RA pl) (c := 2) (sRA pl) (fun z => by cases z) (lk_one (sRA pl) (by show (0 : Int) ≠ pl; omega) (lvB pl 2) (by rw [show Hd.there (one 1 pl ((some ((nu + 2), [pl, 0]))) 0 (RA pl) 2) = pl - 1 from if_neg (show ¬ pl < 0 by omega), atB1]; exact decide_eq_false (by omega))); rw [asks_one] at this; exact this)
    have tw := tw.same ss49
    have wX2 := wX2.tk (tk_same ss49)
    have lX3 := lX3.tk (tk_same ss49)
    have bA4 := bA4.tk (tk_same ss49)
    have wX7 := wX7.tk (tk_same ss49)
    have lX8 := lX8.tk (tk_same ss49)
    have bA9 := bA9.tk (tk_same ss49)
    have wX19 := wX19.tk (tk_same ss49)
    have lX21 := lX21.tk (tk_same ss49)
    have bA22 := bA22.tk (tk_same ss49)
    have wX39 := wX39.tk (tk_same ss49)
    have lX41 := lX41.tk (tk_same ss49)
    have bA42 := bA42.tk (tk_same ss49)
    obtain ⟨P50, as50, eG50, L50, eP50, lF50⟩ := pr_in bA49
    have pf50 : PrAt _ P50 ((0, (("ask", [0, 2], (some ((nu + 2), [pl, 0]))) : Lt)) : Bt) := ⟨L50, eP50, lF50⟩
    refine ⟨g49, _, 0, _, rfl, rfl, .inl (.inl eG50), atI_nat (j := 0) rfl, _, rfl, (show 4 ≤ sizeLine by decide), fun X51 nX51 => ?_⟩
    have sX51 := same_new (o := HO.tup [V.str "ask", V.int 0, V.int 2, V.ref X39]) nX51
    have eX51 := new_at (o := HO.tup [V.str "ask", V.int 0, V.int 2, V.ref X39]) nX51
    have tw := tw.same sX51
    have wX2 := wX2.tk (tk_same sX51)
    have lX3 := lX3.tk (tk_same sX51)
    have bA4 := bA4.tk (tk_same sX51)
    have wX7 := wX7.tk (tk_same sX51)
    have lX8 := lX8.tk (tk_same sX51)
    have bA9 := bA9.tk (tk_same sX51)
    have wX19 := wX19.tk (tk_same sX51)
    have lX21 := lX21.tk (tk_same sX51)
    have bA22 := bA22.tk (tk_same sX51)
    have wX39 := wX39.tk (tk_same sX51)
    have lX41 := lX41.tk (tk_same sX51)
    have bA42 := bA42.tk (tk_same sX51)
    have pf50 := pf50.tk (tk_same sX51)
    have lX51 : LetAt _ X51 (("ask", [0, 2], some ((nu + 2), [pl, 0])) : Lt) := ⟨.ref X39, eX51, wX39⟩
    refine ⟨(show 2 ≤ sizeLine by decide), fun X52 nX52 => ?_⟩
    have sX52 := same_new (o := HO.tup [V.int 0, V.ref X51]) nX52
    have eX52 := new_at (o := HO.tup [V.int 0, V.ref X51]) nX52
    have tw := tw.same sX52
    have wX2 := wX2.tk (tk_same sX52)
    have lX3 := lX3.tk (tk_same sX52)
    have bA4 := bA4.tk (tk_same sX52)
    have wX7 := wX7.tk (tk_same sX52)
    have lX8 := lX8.tk (tk_same sX52)
    have bA9 := bA9.tk (tk_same sX52)
    have wX19 := wX19.tk (tk_same sX52)
    have lX21 := lX21.tk (tk_same sX52)
    have bA22 := bA22.tk (tk_same sX52)
    have wX39 := wX39.tk (tk_same sX52)
    have lX41 := lX41.tk (tk_same sX52)
    have bA42 := bA42.tk (tk_same sX52)
    have pf50 := pf50.tk (tk_same sX52)
    have lX51 := lX51.tk (tk_same sX52)
    have rX52 : PrAt _ X52 ((0, (("ask", [0, 2], some ((nu + 2), [pl, 0])) : Lt)) : Bt) := ⟨X51, eX52, lX51⟩
    refine ⟨_, _, dp_pr pf50, dp_pr rX52, sh1 _ (.inl rfl), sh1 _ (.inl rfl), false, nq1 ((0, (("ask", [0, 2], some ((nu + 2), [pl, 0])) : Lt)) : Bt) (.inl rfl), iteF ?_⟩
    obtain ⟨dx53, vx53, i53, _⟩ := tw.a.in
    refine ⟨.ref x, rfl, x, dx53, _, rfl, i53, lkm, _, rfl, (show 4 ≤ sizeLine by decide), fun X54 nX54 => ?_⟩
    have sX54 := same_new (o := HO.tup [V.str "ask", V.int 0, V.int 2, V.ref X39]) nX54
    have eX54 := new_at (o := HO.tup [V.str "ask", V.int 0, V.int 2, V.ref X39]) nX54
    have tw := tw.same sX54
    have wX2 := wX2.tk (tk_same sX54)
    have lX3 := lX3.tk (tk_same sX54)
    have bA4 := bA4.tk (tk_same sX54)
    have wX7 := wX7.tk (tk_same sX54)
    have lX8 := lX8.tk (tk_same sX54)
    have bA9 := bA9.tk (tk_same sX54)
    have wX19 := wX19.tk (tk_same sX54)
    have lX21 := lX21.tk (tk_same sX54)
    have bA22 := bA22.tk (tk_same sX54)
    have wX39 := wX39.tk (tk_same sX54)
    have lX41 := lX41.tk (tk_same sX54)
    have bA42 := bA42.tk (tk_same sX54)
    have lX54 : LetAt _ X54 (("ask", [0, 2], some ((nu + 2), [pl, 0])) : Lt) := ⟨.ref X39, eX54, wX39⟩
    refine ⟨x, D, T, X54, (one 0 pl ((some ((nu + 1), [(2 * pl), (2 * pl)]))) 0 (RA pl) 1), (("ask", [0, 2], some ((nu + 2), [pl, 0])) : Lt), rfl, tw.a, tw.nDT, lX54, (ltp2 (.inl rfl) ⟨by decide, by decide⟩ ⟨by decide, by decide⟩ (fun w e => by cases e; exact pX39)), (fun w e => by cases e; exact (show 0 < 2 by decide)), (show 1 ≤ 40 by decide), fun H55 an55 bb55 ha55 bA55 => ?_⟩
    rw [hear_give (w := (some ((nu + 1), [(2 * pl), (2 * pl)]))) (o := (some ((nu + 2), [pl, 0]))) (v := (some ((nu + 2), [pl, 0]))) (sRA pl) (.inl ⟨rfl, by show (nu + 1 : Int) < nu + 2; omega⟩) (by decide) (lvA pl 2) (by rw [atA]; exact decide_eq_true (by omega))] at ha55 bA55
    have ha55 : HandAt C _ x D T (one 0 pl ((some ((nu + 2), [pl, 0]))) 0 (RA pl) 3) := ha55
    have bA55 : BAt _ an55 ([(1, ("leave", [0, 3], (some ((nu + 2), [pl, 0]))))] : List Bt) := bA55
    have tk55 := bb55.tk tw.a
    have wX2 := wX2.tk (tk55)
    have lX3 := lX3.tk (tk55)
    have bA4 := bA4.tk (tk55)
    have wX7 := wX7.tk (tk55)
    have lX8 := lX8.tk (tk55)
    have bA9 := bA9.tk (tk55)
    have wX19 := wX19.tk (tk55)
    have lX21 := lX21.tk (tk55)
    have bA22 := bA22.tk (tk55)
    have wX39 := wX39.tk (tk55)
    have lX41 := lX41.tk (tk55)
    have bA42 := bA42.tk (tk55)
    have lX54 := lX54.tk (tk55)
    have tw := tw.left bb55 ha55
    refine ⟨_, rfl, (show 4 ≤ sizeLine by decide), fun X56 nX56 => ?_⟩
    have sX56 := same_new (o := HO.tup [V.str "leave", V.int 0, V.int 3, V.ref X39]) nX56
    have eX56 := new_at (o := HO.tup [V.str "leave", V.int 0, V.int 3, V.ref X39]) nX56
    have tw := tw.same sX56
    have wX2 := wX2.tk (tk_same sX56)
    have lX3 := lX3.tk (tk_same sX56)
    have bA4 := bA4.tk (tk_same sX56)
    have wX7 := wX7.tk (tk_same sX56)
    have lX8 := lX8.tk (tk_same sX56)
    have bA9 := bA9.tk (tk_same sX56)
    have wX19 := wX19.tk (tk_same sX56)
    have lX21 := lX21.tk (tk_same sX56)
    have bA22 := bA22.tk (tk_same sX56)
    have wX39 := wX39.tk (tk_same sX56)
    have lX41 := lX41.tk (tk_same sX56)
    have bA42 := bA42.tk (tk_same sX56)
    have lX54 := lX54.tk (tk_same sX56)
    have bA55 := bA55.tk (tk_same sX56)
    have lX56 : LetAt _ X56 (("leave", [0, 3], some ((nu + 2), [pl, 0])) : Lt) := ⟨.ref X39, eX56, wX39⟩
    refine ⟨(show 2 ≤ sizeLine by decide), fun X57 nX57 => ?_⟩
    have sX57 := same_new (o := HO.tup [V.int 1, V.ref X56]) nX57
    have eX57 := new_at (o := HO.tup [V.int 1, V.ref X56]) nX57
    have tw := tw.same sX57
    have wX2 := wX2.tk (tk_same sX57)
    have lX3 := lX3.tk (tk_same sX57)
    have bA4 := bA4.tk (tk_same sX57)
    have wX7 := wX7.tk (tk_same sX57)
    have lX8 := lX8.tk (tk_same sX57)
    have bA9 := bA9.tk (tk_same sX57)
    have wX19 := wX19.tk (tk_same sX57)
    have lX21 := lX21.tk (tk_same sX57)
    have bA22 := bA22.tk (tk_same sX57)
    have wX39 := wX39.tk (tk_same sX57)
    have lX41 := lX41.tk (tk_same sX57)
    have bA42 := bA42.tk (tk_same sX57)
    have lX54 := lX54.tk (tk_same sX57)
    have bA55 := bA55.tk (tk_same sX57)
    have lX56 := lX56.tk (tk_same sX57)
    have rX57 : PrAt _ X57 ((1, (("leave", [0, 3], some ((nu + 2), [pl, 0])) : Lt)) : Bt) := ⟨X56, eX57, lX56⟩
    refine ⟨(show 1 ≤ sizeLine by decide), fun X58 nX58 => ?_⟩
    have sX58 := same_new (o := HO.tup [V.ref X57]) nX58
    have eX58 := new_at (o := HO.tup [V.ref X57]) nX58
    have tw := tw.same sX58
    have wX2 := wX2.tk (tk_same sX58)
    have lX3 := lX3.tk (tk_same sX58)
    have bA4 := bA4.tk (tk_same sX58)
    have wX7 := wX7.tk (tk_same sX58)
    have lX8 := lX8.tk (tk_same sX58)
    have bA9 := bA9.tk (tk_same sX58)
    have wX19 := wX19.tk (tk_same sX58)
    have lX21 := lX21.tk (tk_same sX58)
    have bA22 := bA22.tk (tk_same sX58)
    have wX39 := wX39.tk (tk_same sX58)
    have lX41 := lX41.tk (tk_same sX58)
    have bA42 := bA42.tk (tk_same sX58)
    have lX54 := lX54.tk (tk_same sX58)
    have bA55 := bA55.tk (tk_same sX58)
    have rX57 := rX57.tk (tk_same sX58)
    have bX58 : BAt _ X58 ([(1, (("leave", [0, 3], some ((nu + 2), [pl, 0])) : Lt))] : List Bt) := ⟨[X57], eX58, ⟨rX57, trivial⟩⟩
    refine ⟨_, _, dp_bat bA55, dp_bat bX58, shb _ ⟨.inr (.inl rfl), trivial⟩, shb _ ⟨.inr (.inl rfl), trivial⟩, false, nqb ([(1, ("leave", [0, 3], (some ((nu + 2), [pl, 0]))))] : List Bt) ⟨.inr (.inl rfl), trivial⟩, iteF ?_⟩
    obtain ⟨dx59, vx59, i59, _⟩ := tw.a.in
    refine ⟨.ref x, rfl, x, dx59, _, rfl, i59, lkm, x, D, T, (one 0 pl ((some ((nu + 2), [pl, 0]))) 0 (RA pl) 3), 0, RA pl, 3, rfl, tw.a, look_one1, sRA pl, fun H60 ss60 => ?_⟩
    have tw := tw.same ss60
    have wX2 := wX2.tk (tk_same ss60)
    have lX3 := lX3.tk (tk_same ss60)
    have bA4 := bA4.tk (tk_same ss60)
    have wX7 := wX7.tk (tk_same ss60)
    have lX8 := lX8.tk (tk_same ss60)
    have bA9 := bA9.tk (tk_same ss60)
    have wX19 := wX19.tk (tk_same ss60)
    have lX21 := lX21.tk (tk_same ss60)
    have bA22 := bA22.tk (tk_same ss60)
    have wX39 := wX39.tk (tk_same ss60)
    have lX41 := lX41.tk (tk_same ss60)
    have bA42 := bA42.tk (tk_same ss60)
    have lX54 := lX54.tk (tk_same ss60)
    refine ⟨_, _, rfl, rfl, _, rfl, ?_⟩
    refine iteNS (show leaveB 0 (RA pl) 3 = false from lvA pl 3) ?_
    obtain ⟨dx61, vx61, i61, _⟩ := tw.b.in
    refine ⟨.ref y, rfl, y, dx61, _, rfl, i61, lkm, _, rfl, (show 4 ≤ sizeLine by decide), fun X62 nX62 => ?_⟩
    have sX62 := same_new (o := HO.tup [V.str "leave", V.int 0, V.int 3, V.ref X39]) nX62
    have eX62 := new_at (o := HO.tup [V.str "leave", V.int 0, V.int 3, V.ref X39]) nX62
    have tw := tw.same sX62
    have wX2 := wX2.tk (tk_same sX62)
    have lX3 := lX3.tk (tk_same sX62)
    have bA4 := bA4.tk (tk_same sX62)
    have wX7 := wX7.tk (tk_same sX62)
    have lX8 := lX8.tk (tk_same sX62)
    have bA9 := bA9.tk (tk_same sX62)
    have wX19 := wX19.tk (tk_same sX62)
    have lX21 := lX21.tk (tk_same sX62)
    have bA22 := bA22.tk (tk_same sX62)
    have wX39 := wX39.tk (tk_same sX62)
    have lX41 := lX41.tk (tk_same sX62)
    have bA42 := bA42.tk (tk_same sX62)
    have lX54 := lX54.tk (tk_same sX62)
    have lX62 : LetAt _ X62 (("leave", [0, 3], some ((nu + 2), [pl, 0])) : Lt) := ⟨.ref X39, eX62, wX39⟩
    refine ⟨y, E, F, X62, (one 1 pl ((some ((nu + 2), [pl, 0]))) 0 (RA pl) 2), (("leave", [0, 3], some ((nu + 2), [pl, 0])) : Lt), rfl, tw.b, tw.nEF, lX62, (ltp2 (.inr rfl) ⟨by decide, by decide⟩ ⟨by decide, by decide⟩ (fun w e => by cases e; exact pX39)), (fun w e => by cases e; exact (show 1 < 2 by decide)), (show 1 ≤ 40 by decide), fun H63 an63 bb63 ha63 bA63 => ?_⟩
    rw [hear_leave (w := (some ((nu + 2), [pl, 0]))) (o := (some ((nu + 2), [pl, 0]))) (sRA pl) (Int.le_refl _)] at ha63 bA63
    have ha63 : HandAt C _ y E F (one 1 pl ((some ((nu + 2), [pl, 0]))) 0 (RA pl) 3) := ha63
    have bA63 : BAt _ an63 ([] : List Bt) := bA63
    have tk63 := bb63.tk tw.b
    have wX2 := wX2.tk (tk63)
    have lX3 := lX3.tk (tk63)
    have bA4 := bA4.tk (tk63)
    have wX7 := wX7.tk (tk63)
    have lX8 := lX8.tk (tk63)
    have bA9 := bA9.tk (tk63)
    have wX19 := wX19.tk (tk63)
    have lX21 := lX21.tk (tk63)
    have bA22 := bA22.tk (tk63)
    have wX39 := wX39.tk (tk63)
    have lX41 := lX41.tk (tk63)
    have bA42 := bA42.tk (tk63)
    have lX54 := lX54.tk (tk63)
    have lX62 := lX62.tk (tk63)
    have tw := tw.right bb63 ha63
    obtain ⟨dx64, vx64, i64, _⟩ := tw.b.in
    refine ⟨.ref y, rfl, y, dx64, _, rfl, i64, lkm, y, E, F, (one 1 pl ((some ((nu + 2), [pl, 0]))) 0 (RA pl) 3), rfl, tw.b, tw.nEF, tw.v, (show 1 ≤ 40 by decide), (fun w e => by cases e; exact (show 1 < 2 by decide)), fun H65 q65 bb65 ha65 st65 => ?_⟩
    obtain rfl : 0 = q65 := (st65.uniq (st_goal (sRA pl) (fun z => by cases z) rfl (.inl (lvB pl 3)))).symm
    have ha65 : HandAt C _ y E F (one 1 0 ((some ((nu + 2), [pl, 0]))) 0 (RA pl) 3) := ha65
    have tk65 := bb65.tk tw.b
    have wX2 := wX2.tk (tk65)
    have lX3 := lX3.tk (tk65)
    have bA4 := bA4.tk (tk65)
    have wX7 := wX7.tk (tk65)
    have lX8 := lX8.tk (tk65)
    have bA9 := bA9.tk (tk65)
    have wX19 := wX19.tk (tk65)
    have lX21 := lX21.tk (tk65)
    have bA22 := bA22.tk (tk65)
    have wX39 := wX39.tk (tk65)
    have lX41 := lX41.tk (tk65)
    have bA42 := bA42.tk (tk65)
    have lX54 := lX54.tk (tk65)
    have lX62 := lX62.tk (tk65)
    have bA63 := bA63.tk (tk65)
    have tw := tw.right bb65 ha65
    refine ⟨_, rfl, rfl, true, congrArg V.bl (decide_eq_true (show V.int (if 0 - pl < 0 then -(0 - pl) else 0 - pl) = V.int pl from congrArg V.int (by split <;> omega))), iteT ?_⟩
    obtain ⟨dx66, vx66, i66, _⟩ := tw.a.in
    refine ⟨.ref x, rfl, x, dx66, _, rfl, i66, lkm, _, rfl, (show 4 ≤ sizeLine by decide), fun X67 nX67 => ?_⟩
    have sX67 := same_new (o := HO.tup [V.str "leave", V.int 0, V.int 2, V.ref X19]) nX67
    have eX67 := new_at (o := HO.tup [V.str "leave", V.int 0, V.int 2, V.ref X19]) nX67
    have tw := tw.same sX67
    have wX2 := wX2.tk (tk_same sX67)
    have lX3 := lX3.tk (tk_same sX67)
    have bA4 := bA4.tk (tk_same sX67)
    have wX7 := wX7.tk (tk_same sX67)
    have lX8 := lX8.tk (tk_same sX67)
    have bA9 := bA9.tk (tk_same sX67)
    have wX19 := wX19.tk (tk_same sX67)
    have lX21 := lX21.tk (tk_same sX67)
    have bA22 := bA22.tk (tk_same sX67)
    have wX39 := wX39.tk (tk_same sX67)
    have lX41 := lX41.tk (tk_same sX67)
    have bA42 := bA42.tk (tk_same sX67)
    have lX54 := lX54.tk (tk_same sX67)
    have lX62 := lX62.tk (tk_same sX67)
    have bA63 := bA63.tk (tk_same sX67)
    have lX67 : LetAt _ X67 (("leave", [0, 2], some ((nu + 1), [(2 * pl), (2 * pl)])) : Lt) := ⟨.ref X19, eX67, wX19⟩
    refine ⟨x, D, T, X67, (one 0 pl ((some ((nu + 2), [pl, 0]))) 0 (RA pl) 3), (("leave", [0, 2], some ((nu + 1), [(2 * pl), (2 * pl)])) : Lt), rfl, tw.a, tw.nDT, lX67, (ltp2 (.inr rfl) ⟨by decide, by decide⟩ ⟨by decide, by decide⟩ (fun w e => by cases e; exact pX19)), (fun w e => by cases e; exact (show 0 < 2 by decide)), (show 1 ≤ 40 by decide), fun H68 an68 bb68 ha68 bA68 => ?_⟩
    rw [hear_leave (w := (some ((nu + 2), [pl, 0]))) (o := (some ((nu + 1), [(2 * pl), (2 * pl)]))) (sRA pl) (by show nu + 1 ≤ nu + 2; omega)] at ha68 bA68
    have ha68 : HandAt C _ x D T (one 0 pl ((some ((nu + 2), [pl, 0]))) 0 (RA pl) 3) := ha68
    have bA68 : BAt _ an68 ([] : List Bt) := bA68
    have tk68 := bb68.tk tw.a
    have wX2 := wX2.tk (tk68)
    have lX3 := lX3.tk (tk68)
    have bA4 := bA4.tk (tk68)
    have wX7 := wX7.tk (tk68)
    have lX8 := lX8.tk (tk68)
    have bA9 := bA9.tk (tk68)
    have wX19 := wX19.tk (tk68)
    have lX21 := lX21.tk (tk68)
    have bA22 := bA22.tk (tk68)
    have wX39 := wX39.tk (tk68)
    have lX41 := lX41.tk (tk68)
    have bA42 := bA42.tk (tk68)
    have lX54 := lX54.tk (tk68)
    have lX62 := lX62.tk (tk68)
    have bA63 := bA63.tk (tk68)
    have lX67 := lX67.tk (tk68)
    have tw := tw.left bb68 ha68
    refine ⟨(show 0 ≤ sizeLine by decide), fun X69 nX69 => ?_⟩
    have sX69 := same_new (o := HO.tup []) nX69
    have eX69 := new_at (o := HO.tup []) nX69
    have tw := tw.same sX69
    have wX2 := wX2.tk (tk_same sX69)
    have lX3 := lX3.tk (tk_same sX69)
    have bA4 := bA4.tk (tk_same sX69)
    have wX7 := wX7.tk (tk_same sX69)
    have lX8 := lX8.tk (tk_same sX69)
    have bA9 := bA9.tk (tk_same sX69)
    have wX19 := wX19.tk (tk_same sX69)
    have lX21 := lX21.tk (tk_same sX69)
    have bA22 := bA22.tk (tk_same sX69)
    have wX39 := wX39.tk (tk_same sX69)
    have lX41 := lX41.tk (tk_same sX69)
    have bA42 := bA42.tk (tk_same sX69)
    have lX54 := lX54.tk (tk_same sX69)
    have lX62 := lX62.tk (tk_same sX69)
    have bA63 := bA63.tk (tk_same sX69)
    have lX67 := lX67.tk (tk_same sX69)
    have bA68 := bA68.tk (tk_same sX69)
    have bX69 : BAt _ X69 ([] : List Bt) := ⟨[], eX69, trivial⟩
    refine ⟨_, _, dp_bat bA68, dp_bat bX69, shb _ trivial, shb _ trivial, true, eqb ([] : List Bt) trivial, iteT ?_⟩
    obtain ⟨dx70, vx70, i70, _⟩ := tw.a.in
    refine ⟨.ref x, rfl, x, dx70, _, rfl, i70, lkm, x, D, T, (one 0 pl ((some ((nu + 2), [pl, 0]))) 0 (RA pl) 3), 0, RA pl, 3, rfl, tw.a, look_one1, sRA pl, fun H71 ss71 => ?_⟩
    have tw := tw.same ss71
    have wX2 := wX2.tk (tk_same ss71)
    have lX3 := lX3.tk (tk_same ss71)
    have bA4 := bA4.tk (tk_same ss71)
    have wX7 := wX7.tk (tk_same ss71)
    have lX8 := lX8.tk (tk_same ss71)
    have bA9 := bA9.tk (tk_same ss71)
    have wX19 := wX19.tk (tk_same ss71)
    have lX21 := lX21.tk (tk_same ss71)
    have bA22 := bA22.tk (tk_same ss71)
    have wX39 := wX39.tk (tk_same ss71)
    have lX41 := lX41.tk (tk_same ss71)
    have bA42 := bA42.tk (tk_same ss71)
    have lX54 := lX54.tk (tk_same ss71)
    have lX62 := lX62.tk (tk_same ss71)
    have bA63 := bA63.tk (tk_same ss71)
    have lX67 := lX67.tk (tk_same ss71)
    have bA68 := bA68.tk (tk_same ss71)
    have bX69 := bX69.tk (tk_same ss71)
    refine ⟨rfl, ?_⟩
    rw [show decide (V.int 3 = V.int 3) = true from decide_eq_true (congrArg V.int (rfl))]
    exact q _ tw.fr
end
end K64

set_option Elab.async false
set_option linter.all false
set_option maxRecDepth 100000
namespace K64
open PySem PySem.Spec PyProof.Rows L2 NB

/-! ### more histories -/
section
variable {P : Program} {w : World} {K : PySem.W.Frag} {mg : Str → Option Value} {base : Heap}
abbrev a__law_late_double : Stmt := topS 24
abbrev n__law_late_double : List Str := ["_law_place", "_law_number", "_law_one", "_law_two_here", "_law_rule", "_law_wish", "_law_further", "_law_hand", "_law_leave", "_law_asked", "_law_given"]
theorem sc__law_late_double : FnScope n__law_late_double ["_law_place", "_law_number"] (defScope a__law_late_double) := ⟨rfl, rfl, rfl, by decide +kernel, rfl, by decide +kernel, by decide +kernel⟩
set_option maxHeartbeats 8000000 in
theorem ok__law_late_double {f fTw : Addr} {fd fdTw : FuncData} {k : Nat} {C : Addr} (F : Fun K "_law_late_double" "_law_late_double" a__law_late_double f fd) (Tw : Kn P w K mg base 3 "_law_two" ["_law_place"] (spTwo C) fTw fdTw) (Hh : C8.Met P w K mg base 7 C "hear" (spHear C) []) (St1 : C8.Met P w K mg base 8 C "stride" (spStride C) []) (Hc : C8.Met P w K mg base 4 C "count_of" (spCount C) []) (Hv : C8.Met P w K mg base 5 C "has_leave" (spLeave C) []) (Hl : C8.Met P w K mg base 6 C "lacks" (spLkL C) []) (Hb : C8.Met P w K mg base 7 C "beat" (spBeat C) []) (X : HandTxt K C)  : FnOk P w K mg base CX0 (k + 9) f fd ["_law_place", "_law_number"] (spHist C) := by
  refine F.ok sc__law_late_double (fun vs H Q E h => ?_) (fun cdv A outer s H vs Q E hr h => ?_)
  · obtain ⟨pl, nu, rfl, _⟩ := h
    rfl
  · obtain ⟨pl, nu, rfl, hp1, hp2, hn1, hn2, q⟩ := h
    refine ⟨_, (pss_cons (ps_asg (pe_kn Tw hr (by omega) (pa_cons (pv 0) pa_nil)) (pg_tup rfl (pgs_cons (pg_name (i := 2) sc__law_late_double.nd rfl (.inl rfl)) (pgs_cons (pg_name (i := 3) sc__law_late_double.nd rfl (.inl rfl)) (pgs_cons (pg_name (i := 4) sc__law_late_double.nd rfl (.inl rfl)) pgs_nil)))))
      (pss_cons (ps_par (i := 5) (j := 6) (by rfl) sc__law_late_double.nd rfl rfl (by decide) rfl rfl (pa_cons (pe_tup (pa_cons (pv 1) (pa_cons (pe_tup (pa_cons (pe_op op_mul pe_int (pv 0)) (pa_cons (pe_op op_mul pe_int (pv 0)) pa_nil))) pa_nil))) (pa_cons (pe_tup (pa_cons (pe_op op_add (pv 1) pe_int) (pa_cons (pe_tup (pa_cons pe_int (pa_cons pe_int pa_nil))) pa_nil))) pa_nil)) (by rfl))
      (pss_cons (ps_for PassesOwn.never rfl (pi_tup (pe_tup (pa_cons (pv 2) (pa_cons (pv 3) pa_nil)))) (pg_name (i := 7) sc__law_late_double.nd rfl (.inl rfl))
        (pss_one (ps_expr (C8.pe_mt Hh hr (by omega) (pv 7) (pa_cons (pe_tup (pa_cons pe_str (pa_cons (pv 5) pa_nil))) pa_nil)))))
      (pss_cons (ps_if (pt_cmpR (op_neD hr.units) (pe_lst (pa_cons (C8.pe_mt0 St1 hr (by omega) (pv 3)) (pa_cons (C8.pe_mt0 St1 hr (by omega) (pv 2)) pa_nil))) (pe_lst (pa_cons (pe_op op_mul pe_int (pv 0)) (pa_cons (pv 0) pa_nil))) (nomark _)) (pss_one (ps_ret pe_bl)) pss_nil)
      (pss_cons (ps_set (i := 8) sc__law_late_double.nd rfl (.inl rfl) (pe_ix ix_tup (pe_ix ix_tup (C8.pe_mt Hh hr (by omega) (pv 3) (pa_cons (pe_ix ix_tup (pe_ix ix_tup (C8.pe_mt0 Hb hr (by omega) (pv 2)) pe_int (fun _ _ => rfl)) pe_int (fun _ _ => rfl)) pa_nil)) pe_int (fun _ _ => rfl)) pe_int (fun _ _ => rfl)))
      (pss_cons (ps_expr (C8.pe_mt Hh hr (by omega) (pv 2) (pa_cons (pv 8) pa_nil)))
      (pss_cons (ps_if (PW.pt (pw_or (pt_cmpR op_notBl (C8.pe_mt Hv hr (by omega) (pv 2) (pa_cons pe_int pa_nil)) pe_bl (nomark _)) (pw_or1 (pt_cmpR op_ne (C8.pe_mt0 St1 hr (by omega) (pv 2)) (pv 0) (nomark _))))) (pss_one (ps_ret pe_bl)) pss_nil)
      (pss_cons (ps_for PassesOwn.never rfl (pi_tup (pe_tup (pa_cons (pv 2) (pa_cons (pv 3) pa_nil)))) (pg_name (i := 7) sc__law_late_double.nd rfl (.inl rfl))
        (pss_one (ps_expr (C8.pe_mt Hh hr (by omega) (pv 7) (pa_cons (pe_tup (pa_cons pe_str (pa_cons (pv 6) pa_nil))) pa_nil)))))
      (pss_cons (ps_if (PW.pt (pw_or (pt_cmpR op_ne (C8.pe_mt0 St1 hr (by omega) (pv 3)) (pv 0) (nomark _)) (pw_or1 (pt_cmpR (op_neD hr.units) (C8.pe_mt0 Hl hr (by omega) (pv 3)) (pe_tup (pa_cons pe_int pa_nil)) (nomark _))))) (pss_one (ps_ret pe_bl)) pss_nil)
      (pss_cons (ps_set (i := 9) sc__law_late_double.nd rfl (.inl rfl) (pe_ix ix_tup (pe_ix ix_tup (C8.pe_mt0 Hb hr (by omega) (pv 3)) pe_int (fun _ _ => rfl)) pe_int (fun _ _ => rfl)))
      (pss_cons (ps_if (PW.pt (pw_or (pt_cmpR (op_neD hr.units) (C8.pe_mt Hh hr (by omega) (pv 2) (pa_cons (pv 9) pa_nil)) (pe_tup pa_nil) (nomark _)) (pw_or1 (pt_cmpR op_ne (C8.pe_mt0 St1 hr (by omega) (pv 2)) (pe_op op_mul pe_int (pv 0)) (nomark _))))) (pss_one (ps_ret pe_bl)) pss_nil)
      (pss_cons (ps_set (i := 10) sc__law_late_double.nd rfl (.inl rfl) (C8.pe_mt Hh hr (by omega) (pv 2) (pa_cons (pv 9) pa_nil)))
      (pss_cons (ps_if (PW.pt (pw_or (pt_cmpR (op_neD hr.units) (pv 10) (pe_tup (pa_cons (pe_tup (pa_cons pe_int (pa_cons (pe_tup (pa_cons pe_str (pa_cons pe_int (pa_cons pe_int (pa_cons (pv 6) pa_nil))))) pa_nil))) pa_nil)) (nomark _)) (pw_or (pt_cmpR (op_neD hr.units) (C8.pe_mt Hh hr (by omega) (pv 2) (pa_cons (pv 8) pa_nil)) (pe_tup pa_nil) (nomark _)) (pw_or1 (pt_cmpR op_notBl (C8.pe_mt Hv hr (by omega) (pv 2) (pa_cons pe_int pa_nil)) pe_bl (nomark _)))))) (pss_one (ps_ret pe_bl)) pss_nil)
      (pss_cons (ps_expr (C8.pe_mt Hh hr (by omega) (pv 3) (pa_cons (pe_ix ix_tup (pe_ix ix_tup (pv 10) pe_int (fun _ _ => rfl)) pe_int (fun _ _ => rfl)) pa_nil)))
      (pss_cons (ps_if (PW.pt (pw_or (pt_cmpR op_notBl (C8.pe_mt Hv hr (by omega) (pv 3) (pa_cons pe_int pa_nil)) pe_bl (nomark _)) (pw_or1 (pt_cmpR op_ne (C8.pe_mt0 St1 hr (by omega) (pv 3)) (pv 0) (nomark _))))) (pss_one (ps_ret pe_bl)) pss_nil)
      (pss_one (ps_ret (pe_and (pe_cmpR (op_eqD hr.units) (C8.pe_mt Hh hr (by omega) (pv 3) (pa_cons (pv 8) pa_nil)) (pe_tup pa_nil) (nomark _)) (pe_one (pe_cmpR op_eq (C8.pe_mt Hc hr (by omega) (pv 3) (pa_cons pe_int pa_nil)) pe_int (nomark _))))))))))))))))))))), ?_⟩
    refine ⟨_, rfl, pl, rfl, fun H1 G0 r x D T y E F eG0 rA tw => ⟨G0, _, rfl, .inl (.inl eG0), rfl, _, _, rfl, _, _, rfl, _, _, rfl, rfl, ?_⟩⟩
    try dsimp only [List.set]
    refine ⟨_, rfl, _, rfl, 2, _, rfl, rfl, .inl ⟨by decide, by decide⟩, _, rfl, 2, _, rfl, rfl, .inl ⟨by decide, by decide⟩, (show 2 ≤ sizeLine by decide), fun X0 nX0 => ?_⟩
    have sX0 := same_new (o := HO.tup [V.int (2 * pl), V.int (2 * pl)]) nX0
    have eX0 := new_at (o := HO.tup [V.int (2 * pl), V.int (2 * pl)]) nX0
    have tw := tw.same sX0
    refine ⟨(show 2 ≤ sizeLine by decide), fun X1 nX1 => ?_⟩
    have sX1 := same_new (o := HO.tup [V.int nu, V.ref X0]) nX1
    have eX1 := new_at (o := HO.tup [V.int nu, V.ref X0]) nX1
    have tw := tw.same sX1
    have eX0 := (tk_same sX1) _ _ eX0
    have wX1 : WV _ (.ref X1) (some (nu, [(2 * pl), (2 * pl)])) := ⟨X1, X0, rfl, eX1, eX0⟩
    have pX1 : WiP (nu, [(2 * pl), (2 * pl)]) := wip ⟨by omega, by omega⟩ ⟨by omega, by omega⟩ ⟨by omega, by omega⟩
    refine ⟨_, rfl, _, 5, rfl, rfl, (show 2 ≤ sizeLine by decide), fun X2 nX2 => ?_⟩
    have sX2 := same_new (o := HO.tup [V.int 0, V.int 0]) nX2
    have eX2 := new_at (o := HO.tup [V.int 0, V.int 0]) nX2
    have tw := tw.same sX2
    have wX1 := wX1.tk (tk_same sX2)
    refine ⟨(show 2 ≤ sizeLine by decide), fun X3 nX3 => ?_⟩
    have sX3 := same_new (o := HO.tup [V.int (nu + 5), V.ref X2]) nX3
    have eX3 := new_at (o := HO.tup [V.int (nu + 5), V.ref X2]) nX3
    have tw := tw.same sX3
    have wX1 := wX1.tk (tk_same sX3)
    have eX2 := (tk_same sX3) _ _ eX2
    have wX3 : WV _ (.ref X3) (some ((nu + 5), [0, 0])) := ⟨X3, X2, rfl, eX3, eX2⟩
    have pX3 : WiP ((nu + 5), [0, 0]) := wip ⟨by omega, by omega⟩ ⟨by omega, by omega⟩ ⟨by omega, by omega⟩
    refine ⟨_, _, rfl, ?_⟩
    try dsimp only [List.set]
    refine ⟨_, rfl, _, rfl, (show 2 ≤ sizeLine by decide), fun X4 nX4 => ?_⟩
    have sX4 := same_new (o := HO.tup [V.ref x, V.ref y]) nX4
    have eX4 := new_at (o := HO.tup [V.ref x, V.ref y]) nX4
    have tw := tw.same sX4
    have wX1 := wX1.tk (tk_same sX4)
    have wX3 := wX3.tk (tk_same sX4)
    refine ⟨X4, rfl, ⟨_, .inl (.inl eX4)⟩, ?_⟩
    refine for_it (walk_tup (xs := [V.ref x, V.ref y])) (fun j σ H' => (∃ u7 : Option V, σ = [some (.int pl), some (.int nu), some (.ref x), some (.ref y), some (.ref r), some (.ref X1), some (.ref X3), u7, none, none, none]) ∧ H' X4 = some (.tup [V.ref x, .ref y]) ∧ (WV H' (.ref X1) (some (nu, [(2 * pl), (2 * pl)])) ∧ WV H' (.ref X3) (some ((nu + 5), [0, 0]))) ∧ ∃ hh gg, Two C H H' x D T y E F hh gg ∧ ((j = 0 ∧ hh = (one 0 0 (none) 0 (RA pl) 1) ∧ gg = (one 1 0 (none) 0 (RA pl) 1)) ∨ (j = 1 ∧ hh = (one 0 0 ((some (nu, [(2 * pl), (2 * pl)]))) 0 (RA pl) 1) ∧ gg = (one 1 0 (none) 0 (RA pl) 1)) ∨ (j = 2 ∧ hh = (one 0 0 ((some (nu, [(2 * pl), (2 * pl)]))) 0 (RA pl) 1) ∧ gg = (one 1 0 ((some (nu, [(2 * pl), (2 * pl)]))) 0 (RA pl) 1)))) ⟨⟨_, rfl⟩, eX4, ⟨wX1, wX3⟩, _, _, tw, .inl ⟨rfl, rfl, rfl⟩⟩ (fun j σ H' _ yy => .inl (.inl yy.2.1)) (fun j u σ H7 H8 hj yy zz => ?_) (fun σ H7 yy => ?_)
    · obtain ⟨⟨u7, rfl⟩, eX4, ⟨wX1, wX3⟩, hh, gg, tw, cs⟩ := yy
      obtain ⟨rfl, gv⟩ := zz
      rcases cs with ⟨rfl, rfl, rfl⟩ | ⟨rfl, rfl, rfl⟩ | ⟨rfl, _⟩
      · obtain rfl : u = .ref x := (Option.some.inj gv).symm
        dsimp only [gName, List.set]
        obtain ⟨dx5, vx5, i5, _⟩ := tw.a.in
        refine ⟨.ref x, rfl, x, dx5, _, rfl, i5, lkm, _, rfl, (show 2 ≤ sizeLine by decide), fun X6 nX6 => ?_⟩
        have sX6 := same_new (o := HO.tup [V.str "word", V.ref X1]) nX6
        have eX6 := new_at (o := HO.tup [V.str "word", V.ref X1]) nX6
        have tw := tw.same sX6
        have wX1 := wX1.tk (tk_same sX6)
        have wX3 := wX3.tk (tk_same sX6)
        have eX4 := (tk_same sX6) _ _ eX4
        have lX6 : LetAt _ X6 (("word", [], some (nu, [(2 * pl), (2 * pl)])) : Lt) := ⟨.ref X1, eX6, wX1⟩
        refine ⟨x, D, T, X6, (one 0 0 (none) 0 (RA pl) 1), (("word", [], some (nu, [(2 * pl), (2 * pl)])) : Lt), rfl, tw.a, tw.nDT, lX6, (ltp0 pX1), (fun w e => by cases e; exact (show 0 < 2 by decide)), (show 1 ≤ 40 by decide), fun H7 an7 bb7 ha7 bA7 => ?_⟩
        rw [hear_word (by show (0 : Int) < nu; omega)] at ha7 bA7
        have ha7 : HandAt C _ x D T (one 0 0 ((some (nu, [(2 * pl), (2 * pl)]))) 0 (RA pl) 1) := ha7
        have bA7 : BAt _ an7 ([] : List Bt) := bA7
        have tk7 := bb7.tk tw.a
        have wX1 := wX1.tk (tk7)
        have wX3 := wX3.tk (tk7)
        have eX4 := (tk7) _ _ eX4
        have lX6 := lX6.tk (tk7)
        have tw := tw.left bb7 ha7
        exact ⟨⟨_, rfl⟩, eX4, ⟨wX1, wX3⟩, _, _, tw, .inr (.inl ⟨rfl, rfl, rfl⟩)⟩
      · obtain rfl : u = .ref y := (Option.some.inj gv).symm
        dsimp only [gName, List.set]
        obtain ⟨dx8, vx8, i8, _⟩ := tw.b.in
        refine ⟨.ref y, rfl, y, dx8, _, rfl, i8, lkm, _, rfl, (show 2 ≤ sizeLine by decide), fun X9 nX9 => ?_⟩
        have sX9 := same_new (o := HO.tup [V.str "word", V.ref X1]) nX9
        have eX9 := new_at (o := HO.tup [V.str "word", V.ref X1]) nX9
        have tw := tw.same sX9
        have wX1 := wX1.tk (tk_same sX9)
        have wX3 := wX3.tk (tk_same sX9)
        have eX4 := (tk_same sX9) _ _ eX4
        have lX9 : LetAt _ X9 (("word", [], some (nu, [(2 * pl), (2 * pl)])) : Lt) := ⟨.ref X1, eX9, wX1⟩
        refine ⟨y, E, F, X9, (one 1 0 (none) 0 (RA pl) 1), (("word", [], some (nu, [(2 * pl), (2 * pl)])) : Lt), rfl, tw.b, tw.nEF, lX9, (ltp0 pX1), (fun w e => by cases e; exact (show 1 < 2 by decide)), (show 1 ≤ 40 by decide), fun H10 an10 bb10 ha10 bA10 => ?_⟩
        rw [hear_word (by show (0 : Int) < nu; omega)] at ha10 bA10
        have ha10 : HandAt C _ y E F (one 1 0 ((some (nu, [(2 * pl), (2 * pl)]))) 0 (RA pl) 1) := ha10
        have bA10 : BAt _ an10 ([] : List Bt) := bA10
        have tk10 := bb10.tk tw.b
        have wX1 := wX1.tk (tk10)
        have wX3 := wX3.tk (tk10)
        have eX4 := (tk10) _ _ eX4
        have lX9 := lX9.tk (tk10)
        have tw := tw.right bb10 ha10
        exact ⟨⟨_, rfl⟩, eX4, ⟨wX1, wX3⟩, _, _, tw, .inr (.inr ⟨rfl, rfl, rfl⟩)⟩
      · exact absurd (show 2 < 2 from hj) (by decide)
    obtain ⟨⟨u7, rfl⟩, eX4, ⟨wX1, wX3⟩, hh, gg, tw, cs⟩ := yy
    obtain ⟨rfl, rfl⟩ : hh = (one 0 0 ((some (nu, [(2 * pl), (2 * pl)]))) 0 (RA pl) 1) ∧ gg = (one 1 0 ((some (nu, [(2 * pl), (2 * pl)]))) 0 (RA pl) 1) := by
      rcases cs with ⟨z, _⟩ | ⟨z, _⟩ | ⟨_, z1, z2⟩
      · cases z
      · cases z
      · exact ⟨z1, z2⟩
    obtain ⟨dx11, vx11, i11, _⟩ := tw.b.in
    refine ⟨.ref y, rfl, y, dx11, _, rfl, i11, lkm, y, E, F, (one 1 0 ((some (nu, [(2 * pl), (2 * pl)]))) 0 (RA pl) 1), rfl, tw.b, tw.nEF, tw.v, (show 1 ≤ 40 by decide), (fun w e => by cases e; exact (show 1 < 2 by decide)), fun H12 q12 bb12 ha12 st12 => ?_⟩
    obtain rfl : (2 * pl) = q12 := (st12.uniq (st_goal (sRA pl) (g := 2 * pl) (fun z => by cases z) rfl (.inl (lvB pl 1)))).symm
    have ha12 : HandAt C _ y E F (one 1 (2 * pl) ((some (nu, [(2 * pl), (2 * pl)]))) 0 (RA pl) 1) := ha12
    have tk12 := bb12.tk tw.b
    have wX1 := wX1.tk (tk12)
    have wX3 := wX3.tk (tk12)
    have tw := tw.right bb12 ha12
    obtain ⟨dx13, vx13, i13, _⟩ := tw.a.in
    refine ⟨.ref x, rfl, x, dx13, _, rfl, i13, lkm, x, D, T, (one 0 0 ((some (nu, [(2 * pl), (2 * pl)]))) 0 (RA pl) 1), rfl, tw.a, tw.nDT, tw.u, (show 1 ≤ 40 by decide), (fun w e => by cases e; exact (show 0 < 2 by decide)), fun H14 q14 bb14 ha14 st14 => ?_⟩
    obtain rfl : pl = q14 := (st14.uniq (st_up (sRA pl) (g := 2 * pl) (fun z => by cases z) rfl (by omega) (by omega) (fun x hx => by rw [atA]; exact decide_eq_true hx) (lvA pl 1) (by rw [atA]; exact decide_eq_false (by omega)))).symm
    have ha14 : HandAt C _ x D T (one 0 pl ((some (nu, [(2 * pl), (2 * pl)]))) 0 (RA pl) 1) := ha14
    have tk14 := bb14.tk tw.a
    have wX1 := wX1.tk (tk14)
    have wX3 := wX3.tk (tk14)
    have tw := tw.left bb14 ha14
    refine ⟨(show 2 ≤ sizeLine by decide), fun X15 nX15 => ?_⟩
    have sX15 := same_new (o := HO.lst [V.int (if (2 * pl) - 0 < 0 then -((2 * pl) - 0) else (2 * pl) - 0), V.int (if pl - 0 < 0 then -(pl - 0) else pl - 0)]) nX15
    have eX15 := new_at (o := HO.lst [V.int (if (2 * pl) - 0 < 0 then -((2 * pl) - 0) else (2 * pl) - 0), V.int (if pl - 0 < 0 then -(pl - 0) else pl - 0)]) nX15
    have tw := tw.same sX15
    have wX1 := wX1.tk (tk_same sX15)
    have wX3 := wX3.tk (tk_same sX15)
    have hv1 : (if (2 * pl) - 0 < 0 then -((2 * pl) - 0) else (2 * pl) - 0) = 2 * pl := by split <;> omega
    have hv2 : (if pl - 0 < 0 then -(pl - 0) else pl - 0) = pl := by split <;> omega
    have eX15 := (eX15).trans (show some (HO.lst [V.int (if (2 * pl) - 0 < 0 then -((2 * pl) - 0) else (2 * pl) - 0), V.int (if pl - 0 < 0 then -(pl - 0) else pl - 0)]) = some (HO.lst [V.int (2 * pl), V.int pl]) from by rw [hv1, hv2])
    refine ⟨_, rfl, 2, _, rfl, rfl, .inl ⟨by decide, by decide⟩, _, rfl, (show 2 ≤ sizeLine by decide), fun X16 nX16 => ?_⟩
    have sX16 := same_new (o := HO.lst [V.int (2 * pl), V.int pl]) nX16
    have eX16 := new_at (o := HO.lst [V.int (2 * pl), V.int pl]) nX16
    have tw := tw.same sX16
    have wX1 := wX1.tk (tk_same sX16)
    have wX3 := wX3.tk (tk_same sX16)
    have eX15 := sX16 _ _ eX15
    refine ⟨.list [.int (2 * pl), .int pl], .list [.int (2 * pl), .int pl], .lst (.inl (.inl eX15)) (.cons (.int _) (.cons (.int _) .nil)), .lst (.inl (.inl eX16)) (.cons (.int _) (.cons (.int _) .nil)), rfl, rfl, false, nqd rfl, iteF ?_⟩
    obtain ⟨dx17, vx17, i17, _⟩ := tw.b.in
    obtain ⟨dx18, vx18, i18, _⟩ := tw.a.in
    refine ⟨.ref y, rfl, y, dx17, _, rfl, i17, lkm, .ref x, rfl, x, dx18, _, rfl, i18, lkm, x, D, T, (one 0 pl ((some (nu, [(2 * pl), (2 * pl)]))) 0 (RA pl) 1), rfl, tw.a, (show 1 ≤ 40 by decide), (fun w e => by cases e; exact (show 0 < 2 by decide)), fun H19 g19 bs19 ss19 bA19 bL19 => ?_⟩
    obtain rfl : bs19 = ([(1, ("ask", [0, 1], (some (nu, [(2 * pl), (2 * pl)])))), (1, ("word", [], (some (nu, [(2 * pl), (2 * pl)]))))] : List Bt) := bL19.uniq (by have := bt_of (i := 0) (p := pl) (w := (some (nu, [(2 * pl), (2 * pl)]))) (n := 0) (q := RA pl) (c := 1) (sRA pl) (fun z => by cases z) (lk_one (sRA pl) (by show (2 * pl : Int) ≠ pl; omega) (lvA pl 1) (by rw [show Hd.there (one 0 pl ((some (nu, [(2 * pl), (2 * pl)]))) 0 (RA pl) 1) = pl + 1 from if_pos (show pl < 2 * pl by omega), atA]; exact decide_eq_false (by omega))); rw [asks_one] at this; exact this)
    have tw := tw.same ss19
    have wX1 := wX1.tk (tk_same ss19)
    have wX3 := wX3.tk (tk_same ss19)
    obtain ⟨P20, as20, eG20, L20, eP20, lF20⟩ := pr_in bA19
    refine ⟨g19, _, 0, _, rfl, rfl, .inl (.inl eG20), atI_nat (j := 0) rfl, P20, _, 1, _, rfl, rfl, .inl (.inl eP20), atI_nat (j := 1) rfl, y, E, F, L20, (one 1 (2 * pl) ((some (nu, [(2 * pl), (2 * pl)]))) 0 (RA pl) 1), (("ask", [0, 1], (some (nu, [(2 * pl), (2 * pl)]))) : Lt), rfl, tw.b, tw.nEF, lF20, (ltp2 (.inl rfl) ⟨by decide, by decide⟩ ⟨by decide, by decide⟩ (fun w e => by cases e; exact pX1)), (fun w e => by cases e; exact (show 1 < 2 by decide)), (show 1 ≤ 40 by decide), fun H21 an21 bb21 ha21 bA21 => ?_⟩
    rw [hear_give (w := (some (nu, [(2 * pl), (2 * pl)]))) (o := (some (nu, [(2 * pl), (2 * pl)]))) (v := (some (nu, [(2 * pl), (2 * pl)]))) (sRA pl) (.inr ⟨rfl, rfl⟩) (by decide) (lvB pl 1) (by rw [atB1]; exact decide_eq_true (by omega))] at ha21 bA21
    have ha21 : HandAt C _ y E F (one 1 (2 * pl) ((some (nu, [(2 * pl), (2 * pl)]))) 0 (RA pl) 2) := ha21
    have bA21 : BAt _ an21 ([(0, ("leave", [0, 2], (some (nu, [(2 * pl), (2 * pl)]))))] : List Bt) := bA21
    have tk21 := bb21.tk tw.b
    have wX1 := wX1.tk (tk21)
    have wX3 := wX3.tk (tk21)
    have tw := tw.right bb21 ha21
    obtain ⟨P22, as22, eG22, L22, eP22, lF22⟩ := pr_in bA21
    refine ⟨an21, _, 0, _, rfl, rfl, .inl (.inl eG22), atI_nat (j := 0) rfl, P22, _, 1, _, rfl, rfl, .inl (.inl eP22), atI_nat (j := 1) rfl, ?_⟩
    try dsimp only [List.set]
    have lF22 : LetAt _ L22 (("leave", [0, 2], (some (nu, [(2 * pl), (2 * pl)]))) : Lt) := lF22
    obtain ⟨dx23, vx23, i23, _⟩ := tw.a.in
    refine ⟨.ref x, rfl, x, dx23, _, rfl, i23, lkm, _, rfl, x, D, T, L22, (one 0 pl ((some (nu, [(2 * pl), (2 * pl)]))) 0 (RA pl) 1), (("leave", [0, 2], (some (nu, [(2 * pl), (2 * pl)]))) : Lt), rfl, tw.a, tw.nDT, lF22, (ltp2 (.inr rfl) ⟨by decide, by decide⟩ ⟨by decide, by decide⟩ (fun w e => by cases e; exact pX1)), (fun w e => by cases e; exact (show 0 < 2 by decide)), (show 1 ≤ 40 by decide), fun H24 an24 bb24 ha24 bA24 => ?_⟩
    rw [hear_leave (w := (some (nu, [(2 * pl), (2 * pl)]))) (o := (some (nu, [(2 * pl), (2 * pl)]))) (sRA pl) (Int.le_refl _)] at ha24 bA24
    have ha24 : HandAt C _ x D T (one 0 pl ((some (nu, [(2 * pl), (2 * pl)]))) 0 (RA pl) 2) := ha24
    have bA24 : BAt _ an24 ([] : List Bt) := bA24
    have tk24 := bb24.tk tw.a
    have wX1 := wX1.tk (tk24)
    have wX3 := wX3.tk (tk24)
    have lF22 := lF22.tk (tk24)
    have tw := tw.left bb24 ha24
    obtain ⟨dx25, vx25, i25, _⟩ := tw.a.in
    refine ⟨.ref x, rfl, x, dx25, _, rfl, i25, lkm, x, D, T, (one 0 pl ((some (nu, [(2 * pl), (2 * pl)]))) 0 (RA pl) 2), 0, RA pl, 2, rfl, tw.a, look_one1, sRA pl, fun H26 ss26 => ?_⟩
    have tw := tw.same ss26
    have wX1 := wX1.tk (tk_same ss26)
    have wX3 := wX3.tk (tk_same ss26)
    have lF22 := lF22.tk (tk_same ss26)
    have bA24 := bA24.tk (tk_same ss26)
    refine ⟨_, _, rfl, rfl, _, rfl, ?_⟩
    refine iteNS (show leaveB 0 (RA pl) 2 = true from lvA pl 2) ?_
    obtain ⟨dx27, vx27, i27, _⟩ := tw.a.in
    refine ⟨.ref x, rfl, x, dx27, _, rfl, i27, lkm, x, D, T, (one 0 pl ((some (nu, [(2 * pl), (2 * pl)]))) 0 (RA pl) 2), rfl, tw.a, tw.nDT, tw.u, (show 1 ≤ 40 by decide), (fun w e => by cases e; exact (show 0 < 2 by decide)), fun H28 q28 bb28 ha28 st28 => ?_⟩
    obtain rfl : (2 * pl) = q28 := (st28.uniq (st_goal (sRA pl) (g := 2 * pl) (fun z => by cases z) rfl (.inl (lvA pl 2)))).symm
    have ha28 : HandAt C _ x D T (one 0 (2 * pl) ((some (nu, [(2 * pl), (2 * pl)]))) 0 (RA pl) 2) := ha28
    have tk28 := bb28.tk tw.a
    have wX1 := wX1.tk (tk28)
    have wX3 := wX3.tk (tk28)
    have lF22 := lF22.tk (tk28)
    have bA24 := bA24.tk (tk28)
    have tw := tw.left bb28 ha28
    refine ⟨_, rfl, rfl, _, rfl, ?_⟩
    refine iteNS (show V.int (if (2 * pl) - pl < 0 then -((2 * pl) - pl) else (2 * pl) - pl) = V.int pl from congrArg V.int (by split <;> omega)) ?_
    refine ⟨_, rfl, _, rfl, (show 2 ≤ sizeLine by decide), fun X29 nX29 => ?_⟩
    have sX29 := same_new (o := HO.tup [V.ref x, V.ref y]) nX29
    have eX29 := new_at (o := HO.tup [V.ref x, V.ref y]) nX29
    have tw := tw.same sX29
    have wX1 := wX1.tk (tk_same sX29)
    have wX3 := wX3.tk (tk_same sX29)
    have lF22 := lF22.tk (tk_same sX29)
    have bA24 := bA24.tk (tk_same sX29)
    refine ⟨X29, rfl, ⟨_, .inl (.inl eX29)⟩, ?_⟩
    refine for_it (walk_tup (xs := [V.ref x, V.ref y])) (fun j σ H' => (∃ u7 : Option V, σ = [some (.int pl), some (.int nu), some (.ref x), some (.ref y), some (.ref r), some (.ref X1), some (.ref X3), u7, some (.ref L22), none, none]) ∧ H' X29 = some (.tup [V.ref x, .ref y]) ∧ (WV H' (.ref X1) (some (nu, [(2 * pl), (2 * pl)])) ∧ WV H' (.ref X3) (some ((nu + 5), [0, 0])) ∧ LetAt H' L22 (("leave", [0, 2], (some (nu, [(2 * pl), (2 * pl)]))) : Lt)) ∧ ∃ hh gg, Two C H H' x D T y E F hh gg ∧ ((j = 0 ∧ hh = (one 0 (2 * pl) ((some (nu, [(2 * pl), (2 * pl)]))) 0 (RA pl) 2) ∧ gg = (one 1 (2 * pl) ((some (nu, [(2 * pl), (2 * pl)]))) 0 (RA pl) 2)) ∨ (j = 1 ∧ hh = (one 0 (2 * pl) ((some ((nu + 5), [0, 0]))) 0 (RA pl) 2) ∧ gg = (one 1 (2 * pl) ((some (nu, [(2 * pl), (2 * pl)]))) 0 (RA pl) 2)) ∨ (j = 2 ∧ hh = (one 0 (2 * pl) ((some ((nu + 5), [0, 0]))) 0 (RA pl) 2) ∧ gg = (one 1 (2 * pl) ((some ((nu + 5), [0, 0]))) 0 (RA pl) 2)))) ⟨⟨_, rfl⟩, eX29, ⟨wX1, wX3, lF22⟩, _, _, tw, .inl ⟨rfl, rfl, rfl⟩⟩ (fun j σ H' _ yy => .inl (.inl yy.2.1)) (fun j u σ H7 H8 hj yy zz => ?_) (fun σ H7 yy => ?_)
    · obtain ⟨⟨u7, rfl⟩, eX29, ⟨wX1, wX3, lF22⟩, hh, gg, tw, cs⟩ := yy
      obtain ⟨rfl, gv⟩ := zz
      rcases cs with ⟨rfl, rfl, rfl⟩ | ⟨rfl, rfl, rfl⟩ | ⟨rfl, _⟩
      · obtain rfl : u = .ref x := (Option.some.inj gv).symm
        dsimp only [gName, List.set]
        obtain ⟨dx30, vx30, i30, _⟩ := tw.a.in
        refine ⟨.ref x, rfl, x, dx30, _, rfl, i30, lkm, _, rfl, (show 2 ≤ sizeLine by decide), fun X31 nX31 => ?_⟩
        have sX31 := same_new (o := HO.tup [V.str "word", V.ref X3]) nX31
        have eX31 := new_at (o := HO.tup [V.str "word", V.ref X3]) nX31
        have tw := tw.same sX31
        have wX1 := wX1.tk (tk_same sX31)
        have wX3 := wX3.tk (tk_same sX31)
        have lF22 := lF22.tk (tk_same sX31)
        have eX29 := (tk_same sX31) _ _ eX29
        have lX31 : LetAt _ X31 (("word", [], some ((nu + 5), [0, 0])) : Lt) := ⟨.ref X3, eX31, wX3⟩
        refine ⟨x, D, T, X31, (one 0 (2 * pl) ((some (nu, [(2 * pl), (2 * pl)]))) 0 (RA pl) 2), (("word", [], some ((nu + 5), [0, 0])) : Lt), rfl, tw.a, tw.nDT, lX31, (ltp0 pX3), (fun w e => by cases e; exact (show 0 < 2 by decide)), (show 1 ≤ 40 by decide), fun H32 an32 bb32 ha32 bA32 => ?_⟩
        rw [hear_word (by show (nu : Int) < nu + 5; omega)] at ha32 bA32
        have ha32 : HandAt C _ x D T (one 0 (2 * pl) ((some ((nu + 5), [0, 0]))) 0 (RA pl) 2) := ha32
        have bA32 : BAt _ an32 ([] : List Bt) := bA32
        have tk32 := bb32.tk tw.a
        have wX1 := wX1.tk (tk32)
        have wX3 := wX3.tk (tk32)
        have lF22 := lF22.tk (tk32)
        have eX29 := (tk32) _ _ eX29
        have lX31 := lX31.tk (tk32)
        have tw := tw.left bb32 ha32
        exact ⟨⟨_, rfl⟩, eX29, ⟨wX1, wX3, lF22⟩, _, _, tw, .inr (.inl ⟨rfl, rfl, rfl⟩)⟩
      · obtain rfl : u = .ref y := (Option.some.inj gv).symm
        dsimp only [gName, List.set]
        obtain ⟨dx33, vx33, i33, _⟩ := tw.b.in
        refine ⟨.ref y, rfl, y, dx33, _, rfl, i33, lkm, _, rfl, (show 2 ≤ sizeLine by decide), fun X34 nX34 => ?_⟩
        have sX34 := same_new (o := HO.tup [V.str "word", V.ref X3]) nX34
        have eX34 := new_at (o := HO.tup [V.str "word", V.ref X3]) nX34
        have tw := tw.same sX34
        have wX1 := wX1.tk (tk_same sX34)
        have wX3 := wX3.tk (tk_same sX34)
        have lF22 := lF22.tk (tk_same sX34)
        have eX29 := (tk_same sX34) _ _ eX29
        have lX34 : LetAt _ X34 (("word", [], some ((nu + 5), [0, 0])) : Lt) := ⟨.ref X3, eX34, wX3⟩
        refine ⟨y, E, F, X34, (one 1 (2 * pl) ((some (nu, [(2 * pl), (2 * pl)]))) 0 (RA pl) 2), (("word", [], some ((nu + 5), [0, 0])) : Lt), rfl, tw.b, tw.nEF, lX34, (ltp0 pX3), (fun w e => by cases e; exact (show 1 < 2 by decide)), (show 1 ≤ 40 by decide), fun H35 an35 bb35 ha35 bA35 => ?_⟩
        rw [hear_word (by show (nu : Int) < nu + 5; omega)] at ha35 bA35
        have ha35 : HandAt C _ y E F (one 1 (2 * pl) ((some ((nu + 5), [0, 0]))) 0 (RA pl) 2) := ha35
        have bA35 : BAt _ an35 ([] : List Bt) := bA35
        have tk35 := bb35.tk tw.b
        have wX1 := wX1.tk (tk35)
        have wX3 := wX3.tk (tk35)
        have lF22 := lF22.tk (tk35)
        have eX29 := (tk35) _ _ eX29
        have lX34 := lX34.tk (tk35)
        have tw := tw.right bb35 ha35
        exact ⟨⟨_, rfl⟩, eX29, ⟨wX1, wX3, lF22⟩, _, _, tw, .inr (.inr ⟨rfl, rfl, rfl⟩)⟩
      · exact absurd (show 2 < 2 from hj) (by decide)
    obtain ⟨⟨u7, rfl⟩, eX29, ⟨wX1, wX3, lF22⟩, hh, gg, tw, cs⟩ := yy
    obtain ⟨rfl, rfl⟩ : hh = (one 0 (2 * pl) ((some ((nu + 5), [0, 0]))) 0 (RA pl) 2) ∧ gg = (one 1 (2 * pl) ((some ((nu + 5), [0, 0]))) 0 (RA pl) 2) := by
      rcases cs with ⟨z, _⟩ | ⟨z, _⟩ | ⟨_, z1, z2⟩
      · cases z
      · cases z
      · exact ⟨z1, z2⟩
    obtain ⟨dx36, vx36, i36, _⟩ := tw.b.in
    refine ⟨.ref y, rfl, y, dx36, _, rfl, i36, lkm, y, E, F, (one 1 (2 * pl) ((some ((nu + 5), [0, 0]))) 0 (RA pl) 2), rfl, tw.b, tw.nEF, tw.v, (show 1 ≤ 40 by decide), (fun w e => by cases e; exact (show 1 < 2 by decide)), fun H37 q37 bb37 ha37 st37 => ?_⟩
    obtain rfl : pl = q37 := (st37.uniq (st_down (sRA pl) (fun z => by cases z) (g := 0) rfl (by omega) (by omega) (fun x hx => by rw [atB1]; exact decide_eq_true hx) (lvB pl 2) (by rw [atB1]; exact decide_eq_false (by omega)))).symm
    have ha37 : HandAt C _ y E F (one 1 pl ((some ((nu + 5), [0, 0]))) 0 (RA pl) 2) := ha37
    have tk37 := bb37.tk tw.b
    have wX1 := wX1.tk (tk37)
    have wX3 := wX3.tk (tk37)
    have lF22 := lF22.tk (tk37)
    have tw := tw.right bb37 ha37
    refine ⟨_, rfl, rfl, _, rfl, ?_⟩
    refine iteNS (show V.int (if pl - (2 * pl) < 0 then -(pl - (2 * pl)) else pl - (2 * pl)) = V.int pl from congrArg V.int (by split <;> omega)) ?_
    obtain ⟨dx38, vx38, i38, _⟩ := tw.b.in
    refine ⟨.ref y, rfl, y, dx38, _, rfl, i38, lkm, y, E, F, (one 1 pl ((some ((nu + 5), [0, 0]))) 0 (RA pl) 2), rfl, tw.b, (show 1 ≤ 40 by decide), (fun w e => by cases e; exact (show 1 < 2 by decide)), fun H39 g39 ys39 ss39 eg39 yL39 => ?_⟩
    obtain rfl : ys39 = ([0] : List Int) := yL39.uniq (lk_one (sRA pl) (by show (0 : Int) ≠ pl; omega) (lvB pl 2) (by rw [show Hd.there (one 1 pl ((some ((nu + 5), [0, 0]))) 0 (RA pl) 2) = pl - 1 from if_neg (show ¬ pl < 0 by omega), atB1]; exact decide_eq_false (by omega)))
    have tw := tw.same ss39
    have wX1 := wX1.tk (tk_same ss39)
    have wX3 := wX3.tk (tk_same ss39)
    have lF22 := lF22.tk (tk_same ss39)
    have eg39 : _ = some (HO.tup ([V.int 0] : List V)) := eg39
    refine ⟨(show 1 ≤ sizeLine by decide), fun X40 nX40 => ?_⟩
    have sX40 := same_new (o := HO.tup [V.int 0]) nX40
    have eX40 := new_at (o := HO.tup [V.int 0]) nX40
    have tw := tw.same sX40
    have wX1 := wX1.tk (tk_same sX40)
    have wX3 := wX3.tk (tk_same sX40)
    have lF22 := lF22.tk (tk_same sX40)
    have eg39 := (tk_same sX40) _ _ eg39
    refine ⟨_, _, dp_tup (xs := [0]) (.inl (.inl eg39)), dp_tup (xs := [0]) (.inl (.inl eX40)), rfl, rfl, false, nqd rfl, iteF ?_⟩
    obtain ⟨dx41, vx41, i41, _⟩ := tw.b.in
    refine ⟨.ref y, rfl, y, dx41, _, rfl, i41, lkm, y, E, F, (one 1 pl ((some ((nu + 5), [0, 0]))) 0 (RA pl) 2), rfl, tw.b, (show 1 ≤ 40 by decide), (fun w e => by cases e; exact (show 1 < 2 by decide)), fun H42 g42 bs42 ss42 bA42 bL42 => ?_⟩
    obtain rfl : bs42 = ([(0, ("ask", [0, 2], (some ((nu + 5), [0, 0])))), (0, ("word", [], (some ((nu + 5), [0, 0]))))] : List Bt) := bL42.uniq (by have := bt_of (i := 1) (p := pl) (w := (some ((nu + 5), [0, 0]))) (n := 0) (q := RA pl) (c := 2) (sRA pl) (fun z => by cases z) (lk_one (sRA pl) (by show (0 : Int) ≠ pl; omega) (lvB pl 2) (by rw [show Hd.there (one 1 pl ((some ((nu + 5), [0, 0]))) 0 (RA pl) 2) = pl - 1 from if_neg (show ¬ pl < 0 by omega), atB1]; exact decide_eq_false (by omega))); rw [asks_one] at this; exact this)
    have tw := tw.same ss42
    have wX1 := wX1.tk (tk_same ss42)
    have wX3 := wX3.tk (tk_same ss42)
    have lF22 := lF22.tk (tk_same ss42)
    obtain ⟨P43, as43, eG43, L43, eP43, lF43⟩ := pr_in bA42
    refine ⟨g42, _, 0, _, rfl, rfl, .inl (.inl eG43), atI_nat (j := 0) rfl, P43, _, 1, _, rfl, rfl, .inl (.inl eP43), atI_nat (j := 1) rfl, ?_⟩
    try dsimp only [List.set]
    have lF43 : LetAt _ L43 (("ask", [0, 2], (some ((nu + 5), [0, 0]))) : Lt) := lF43
    obtain ⟨dx44, vx44, i44, _⟩ := tw.a.in
    refine ⟨.ref x, rfl, x, dx44, _, rfl, i44, lkm, _, rfl, x, D, T, L43, (one 0 (2 * pl) ((some ((nu + 5), [0, 0]))) 0 (RA pl) 2), (("ask", [0, 2], (some ((nu + 5), [0, 0]))) : Lt), rfl, tw.a, tw.nDT, lF43, (ltp2 (.inl rfl) ⟨by decide, by decide⟩ ⟨by decide, by decide⟩ (fun w e => by cases e; exact pX3)), (fun w e => by cases e; exact (show 0 < 2 by decide)), (show 1 ≤ 40 by decide), fun H45 an45 bb45 ha45 bA45 => ?_⟩
    rw [hear_keep (w := (some ((nu + 5), [0, 0]))) (o := (some ((nu + 5), [0, 0]))) (v := (some ((nu + 5), [0, 0]))) (sRA pl) (.inr ⟨rfl, rfl⟩) (by decide) (.inr (by rw [atA]; exact decide_eq_false (by omega)))] at ha45 bA45
    have ha45 : HandAt C _ x D T (one 0 (2 * pl) ((some ((nu + 5), [0, 0]))) 0 (RA pl) 2) := ha45
    have bA45 : BAt _ an45 ([] : List Bt) := bA45
    have tk45 := bb45.tk tw.a
    have wX1 := wX1.tk (tk45)
    have wX3 := wX3.tk (tk45)
    have lF22 := lF22.tk (tk45)
    have lF43 := lF43.tk (tk45)
    have tw := tw.left bb45 ha45
    refine ⟨(show 0 ≤ sizeLine by decide), fun X46 nX46 => ?_⟩
    have sX46 := same_new (o := HO.tup []) nX46
    have eX46 := new_at (o := HO.tup []) nX46
    have tw := tw.same sX46
    have wX1 := wX1.tk (tk_same sX46)
    have wX3 := wX3.tk (tk_same sX46)
    have lF22 := lF22.tk (tk_same sX46)
    have lF43 := lF43.tk (tk_same sX46)
    have bA45 := bA45.tk (tk_same sX46)
    have bX46 : BAt _ X46 ([] : List Bt) := ⟨[], eX46, trivial⟩
    refine ⟨_, _, dp_bat bA45, dp_bat bX46, shb _ trivial, shb _ trivial, false, nqb ([] : List Bt) trivial, iteF ?_⟩
    obtain ⟨dx47, vx47, i47, _⟩ := tw.a.in
    refine ⟨.ref x, rfl, x, dx47, _, rfl, i47, lkm, x, D, T, (one 0 (2 * pl) ((some ((nu + 5), [0, 0]))) 0 (RA pl) 2), rfl, tw.a, tw.nDT, tw.u, (show 1 ≤ 40 by decide), (fun w e => by cases e; exact (show 0 < 2 by decide)), fun H48 q48 bb48 ha48 st48 => ?_⟩
    obtain rfl : 0 = q48 := (st48.uniq (st_goal (sRA pl) (g := 0) (fun z => by cases z) rfl (.inl (lvA pl 2)))).symm
    have ha48 : HandAt C _ x D T (one 0 0 ((some ((nu + 5), [0, 0]))) 0 (RA pl) 2) := ha48
    have tk48 := bb48.tk tw.a
    have wX1 := wX1.tk (tk48)
    have wX3 := wX3.tk (tk48)
    have lF22 := lF22.tk (tk48)
    have lF43 := lF43.tk (tk48)
    have tw := tw.left bb48 ha48
    refine ⟨_, rfl, 2, _, rfl, rfl, .inl ⟨by decide, by decide⟩, rfl, _, rfl, ?_⟩
    refine iteNS (show V.int (if 0 - (2 * pl) < 0 then -(0 - (2 * pl)) else 0 - (2 * pl)) = V.int (2 * pl) from congrArg V.int (by split <;> omega)) ?_
    obtain ⟨dx49, vx49, i49, _⟩ := tw.a.in
    refine ⟨.ref x, rfl, x, dx49, _, rfl, i49, lkm, _, rfl, x, D, T, L43, (one 0 0 ((some ((nu + 5), [0, 0]))) 0 (RA pl) 2), (("ask", [0, 2], (some ((nu + 5), [0, 0]))) : Lt), rfl, tw.a, tw.nDT, lF43, (ltp2 (.inl rfl) ⟨by decide, by decide⟩ ⟨by decide, by decide⟩ (fun w e => by cases e; exact pX3)), (fun w e => by cases e; exact (show 0 < 2 by decide)), (show 1 ≤ 40 by decide), fun H50 an50 bb50 ha50 bA50 => ?_⟩
    rw [hear_give (w := (some ((nu + 5), [0, 0]))) (o := (some ((nu + 5), [0, 0]))) (v := (some ((nu + 5), [0, 0]))) (sRA pl) (.inr ⟨rfl, rfl⟩) (by decide) (lvA pl 2) (by rw [atA]; exact decide_eq_true (by omega))] at ha50 bA50
    have ha50 : HandAt C _ x D T (one 0 0 ((some ((nu + 5), [0, 0]))) 0 (RA pl) 3) := ha50
    have bA50 : BAt _ an50 ([(1, ("leave", [0, 3], (some ((nu + 5), [0, 0]))))] : List Bt) := bA50
    have tk50 := bb50.tk tw.a
    have wX1 := wX1.tk (tk50)
    have wX3 := wX3.tk (tk50)
    have lF22 := lF22.tk (tk50)
    have lF43 := lF43.tk (tk50)
    have tw := tw.left bb50 ha50
    try dsimp only [List.set]
    refine ⟨_, rfl, _, rfl, (show 4 ≤ sizeLine by decide), fun X51 nX51 => ?_⟩
    have sX51 := same_new (o := HO.tup [V.str "leave", V.int 0, V.int 3, V.ref X3]) nX51
    have eX51 := new_at (o := HO.tup [V.str "leave", V.int 0, V.int 3, V.ref X3]) nX51
    have tw := tw.same sX51
    have wX1 := wX1.tk (tk_same sX51)
    have wX3 := wX3.tk (tk_same sX51)
    have lF22 := lF22.tk (tk_same sX51)
    have lF43 := lF43.tk (tk_same sX51)
    have bA50 := bA50.tk (tk_same sX51)
    have lX51 : LetAt _ X51 (("leave", [0, 3], some ((nu + 5), [0, 0])) : Lt) := ⟨.ref X3, eX51, wX3⟩
    refine ⟨(show 2 ≤ sizeLine by decide), fun X52 nX52 => ?_⟩
    have sX52 := same_new (o := HO.tup [V.int 1, V.ref X51]) nX52
    have eX52 := new_at (o := HO.tup [V.int 1, V.ref X51]) nX52
    have tw := tw.same sX52
    have wX1 := wX1.tk (tk_same sX52)
    have wX3 := wX3.tk (tk_same sX52)
    have lF22 := lF22.tk (tk_same sX52)
    have lF43 := lF43.tk (tk_same sX52)
    have bA50 := bA50.tk (tk_same sX52)
    have lX51 := lX51.tk (tk_same sX52)
    have rX52 : PrAt _ X52 ((1, (("leave", [0, 3], some ((nu + 5), [0, 0])) : Lt)) : Bt) := ⟨X51, eX52, lX51⟩
    refine ⟨(show 1 ≤ sizeLine by decide), fun X53 nX53 => ?_⟩
    have sX53 := same_new (o := HO.tup [V.ref X52]) nX53
    have eX53 := new_at (o := HO.tup [V.ref X52]) nX53
    have tw := tw.same sX53
    have wX1 := wX1.tk (tk_same sX53)
    have wX3 := wX3.tk (tk_same sX53)
    have lF22 := lF22.tk (tk_same sX53)
    have lF43 := lF43.tk (tk_same sX53)
    have bA50 := bA50.tk (tk_same sX53)
    have rX52 := rX52.tk (tk_same sX53)
    have bX53 : BAt _ X53 ([(1, (("leave", [0, 3], some ((nu + 5), [0, 0])) : Lt))] : List Bt) := ⟨[X52], eX53, ⟨rX52, trivial⟩⟩
    refine ⟨_, _, dp_bat bA50, dp_bat bX53, shb _ ⟨.inr (.inl rfl), trivial⟩, shb _ ⟨.inr (.inl rfl), trivial⟩, false, nqb ([(1, ("leave", [0, 3], (some ((nu + 5), [0, 0]))))] : List Bt) ⟨.inr (.inl rfl), trivial⟩, iteF ?_⟩
    obtain ⟨dx54, vx54, i54, _⟩ := tw.a.in
    refine ⟨.ref x, rfl, x, dx54, _, rfl, i54, lkm, _, rfl, x, D, T, L22, (one 0 0 ((some ((nu + 5), [0, 0]))) 0 (RA pl) 3), (("leave", [0, 2], (some (nu, [(2 * pl), (2 * pl)]))) : Lt), rfl, tw.a, tw.nDT, lF22, (ltp2 (.inr rfl) ⟨by decide, by decide⟩ ⟨by decide, by decide⟩ (fun w e => by cases e; exact pX1)), (fun w e => by cases e; exact (show 0 < 2 by decide)), (show 1 ≤ 40 by decide), fun H55 an55 bb55 ha55 bA55 => ?_⟩
    rw [hear_leave (w := (some ((nu + 5), [0, 0]))) (o := (some (nu, [(2 * pl), (2 * pl)]))) (sRA pl) (by show nu ≤ nu + 5; omega)] at ha55 bA55
    have ha55 : HandAt C _ x D T (one 0 0 ((some ((nu + 5), [0, 0]))) 0 (RA pl) 3) := ha55
    have bA55 : BAt _ an55 ([] : List Bt) := bA55
    have tk55 := bb55.tk tw.a
    have wX1 := wX1.tk (tk55)
    have wX3 := wX3.tk (tk55)
    have lF22 := lF22.tk (tk55)
    have lF43 := lF43.tk (tk55)
    have bA50 := bA50.tk (tk55)
    have tw := tw.left bb55 ha55
    refine ⟨(show 0 ≤ sizeLine by decide), fun X56 nX56 => ?_⟩
    have sX56 := same_new (o := HO.tup []) nX56
    have eX56 := new_at (o := HO.tup []) nX56
    have tw := tw.same sX56
    have wX1 := wX1.tk (tk_same sX56)
    have wX3 := wX3.tk (tk_same sX56)
    have lF22 := lF22.tk (tk_same sX56)
    have lF43 := lF43.tk (tk_same sX56)
    have bA50 := bA50.tk (tk_same sX56)
    have bA55 := bA55.tk (tk_same sX56)
    have bX56 : BAt _ X56 ([] : List Bt) := ⟨[], eX56, trivial⟩
    refine ⟨_, _, dp_bat bA55, dp_bat bX56, shb _ trivial, shb _ trivial, false, nqb ([] : List Bt) trivial, iteF ?_⟩
    obtain ⟨dx57, vx57, i57, _⟩ := tw.a.in
    refine ⟨.ref x, rfl, x, dx57, _, rfl, i57, lkm, x, D, T, (one 0 0 ((some ((nu + 5), [0, 0]))) 0 (RA pl) 3), 0, RA pl, 3, rfl, tw.a, look_one1, sRA pl, fun H58 ss58 => ?_⟩
    have tw := tw.same ss58
    have wX1 := wX1.tk (tk_same ss58)
    have wX3 := wX3.tk (tk_same ss58)
    have lF22 := lF22.tk (tk_same ss58)
    have lF43 := lF43.tk (tk_same ss58)
    have bA50 := bA50.tk (tk_same ss58)
    refine ⟨_, _, rfl, rfl, _, rfl, ?_⟩
    refine iteNS (show leaveB 0 (RA pl) 3 = false from lvA pl 3) ?_
    obtain ⟨dx59, vx59, i59, _⟩ := tw.b.in
    obtain ⟨P60, as60, eG60, L60, eP60, lF60⟩ := pr_in bA50
    refine ⟨.ref y, rfl, y, dx59, _, rfl, i59, lkm, .ref an50, rfl, an50, _, 0, _, rfl, rfl, .inl (.inl eG60), atI_nat (j := 0) rfl, P60, _, 1, _, rfl, rfl, .inl (.inl eP60), atI_nat (j := 1) rfl, y, E, F, L60, (one 1 pl ((some ((nu + 5), [0, 0]))) 0 (RA pl) 2), (("leave", [0, 3], (some ((nu + 5), [0, 0]))) : Lt), rfl, tw.b, tw.nEF, lF60, (ltp2 (.inr rfl) ⟨by decide, by decide⟩ ⟨by decide, by decide⟩ (fun w e => by cases e; exact pX3)), (fun w e => by cases e; exact (show 1 < 2 by decide)), (show 1 ≤ 40 by decide), fun H61 an61 bb61 ha61 bA61 => ?_⟩
    rw [hear_leave (w := (some ((nu + 5), [0, 0]))) (o := (some ((nu + 5), [0, 0]))) (sRA pl) (Int.le_refl _)] at ha61 bA61
    have ha61 : HandAt C _ y E F (one 1 pl ((some ((nu + 5), [0, 0]))) 0 (RA pl) 3) := ha61
    have bA61 : BAt _ an61 ([] : List Bt) := bA61
    have tk61 := bb61.tk tw.b
    have wX1 := wX1.tk (tk61)
    have wX3 := wX3.tk (tk61)
    have lF22 := lF22.tk (tk61)
    have lF43 := lF43.tk (tk61)
    have bA50 := bA50.tk (tk61)
    have tw := tw.right bb61 ha61
    obtain ⟨dx62, vx62, i62, _⟩ := tw.b.in
    refine ⟨.ref y, rfl, y, dx62, _, rfl, i62, lkm, y, E, F, (one 1 pl ((some ((nu + 5), [0, 0]))) 0 (RA pl) 3), 0, RA pl, 3, rfl, tw.b, look_one1, sRA pl, fun H63 ss63 => ?_⟩
    have tw := tw.same ss63
    have wX1 := wX1.tk (tk_same ss63)
    have wX3 := wX3.tk (tk_same ss63)
    have lF22 := lF22.tk (tk_same ss63)
    have lF43 := lF43.tk (tk_same ss63)
    have bA61 := bA61.tk (tk_same ss63)
    refine ⟨_, _, rfl, rfl, _, rfl, ?_⟩
    refine iteNS (show leaveB 1 (RA pl) 3 = true from lvB pl 3) ?_
    obtain ⟨dx64, vx64, i64, _⟩ := tw.b.in
    refine ⟨.ref y, rfl, y, dx64, _, rfl, i64, lkm, y, E, F, (one 1 pl ((some ((nu + 5), [0, 0]))) 0 (RA pl) 3), rfl, tw.b, tw.nEF, tw.v, (show 1 ≤ 40 by decide), (fun w e => by cases e; exact (show 1 < 2 by decide)), fun H65 q65 bb65 ha65 st65 => ?_⟩
    obtain rfl : 0 = q65 := (st65.uniq (st_goal (sRA pl) (g := 0) (fun z => by cases z) rfl (.inl (lvB pl 3)))).symm
    have ha65 : HandAt C _ y E F (one 1 0 ((some ((nu + 5), [0, 0]))) 0 (RA pl) 3) := ha65
    have tk65 := bb65.tk tw.b
    have wX1 := wX1.tk (tk65)
    have wX3 := wX3.tk (tk65)
    have lF22 := lF22.tk (tk65)
    have lF43 := lF43.tk (tk65)
    have bA61 := bA61.tk (tk65)
    have tw := tw.right bb65 ha65
    refine ⟨_, rfl, rfl, _, rfl, ?_⟩
    refine iteNS (show V.int (if 0 - pl < 0 then -(0 - pl) else 0 - pl) = V.int pl from congrArg V.int (by split <;> omega)) ?_
    obtain ⟨dx66, vx66, i66, _⟩ := tw.b.in
    refine ⟨.ref y, rfl, y, dx66, _, rfl, i66, lkm, _, rfl, y, E, F, L22, (one 1 0 ((some ((nu + 5), [0, 0]))) 0 (RA pl) 3), (("leave", [0, 2], (some (nu, [(2 * pl), (2 * pl)]))) : Lt), rfl, tw.b, tw.nEF, lF22, (ltp2 (.inr rfl) ⟨by decide, by decide⟩ ⟨by decide, by decide⟩ (fun w e => by cases e; exact pX1)), (fun w e => by cases e; exact (show 1 < 2 by decide)), (show 1 ≤ 40 by decide), fun H67 an67 bb67 ha67 bA67 => ?_⟩
    rw [hear_leave (w := (some ((nu + 5), [0, 0]))) (o := (some (nu, [(2 * pl), (2 * pl)]))) (sRA pl) (by show nu ≤ nu + 5; omega)] at ha67 bA67
    have ha67 : HandAt C _ y E F (one 1 0 ((some ((nu + 5), [0, 0]))) 0 (RA pl) 3) := ha67
    have bA67 : BAt _ an67 ([] : List Bt) := bA67
    have tk67 := bb67.tk tw.b
    have wX1 := wX1.tk (tk67)
    have wX3 := wX3.tk (tk67)
    have lF22 := lF22.tk (tk67)
    have lF43 := lF43.tk (tk67)
    have bA61 := bA61.tk (tk67)
    have tw := tw.right bb67 ha67
    refine ⟨(show 0 ≤ sizeLine by decide), fun X68 nX68 => ?_⟩
    have sX68 := same_new (o := HO.tup []) nX68
    have eX68 := new_at (o := HO.tup []) nX68
    have tw := tw.same sX68
    have wX1 := wX1.tk (tk_same sX68)
    have wX3 := wX3.tk (tk_same sX68)
    have lF22 := lF22.tk (tk_same sX68)
    have lF43 := lF43.tk (tk_same sX68)
    have bA61 := bA61.tk (tk_same sX68)
    have bA67 := bA67.tk (tk_same sX68)
    have bX68 : BAt _ X68 ([] : List Bt) := ⟨[], eX68, trivial⟩
    refine ⟨_, _, dp_bat bA67, dp_bat bX68, shb _ trivial, shb _ trivial, true, eqb ([] : List Bt) trivial, iteT ?_⟩
    obtain ⟨dx69, vx69, i69, _⟩ := tw.b.in
    refine ⟨.ref y, rfl, y, dx69, _, rfl, i69, lkm, y, E, F, (one 1 0 ((some ((nu + 5), [0, 0]))) 0 (RA pl) 3), 0, RA pl, 3, rfl, tw.b, look_one1, sRA pl, fun H70 ss70 => ?_⟩
    have tw := tw.same ss70
    have wX1 := wX1.tk (tk_same ss70)
    have wX3 := wX3.tk (tk_same ss70)
    have lF22 := lF22.tk (tk_same ss70)
    have lF43 := lF43.tk (tk_same ss70)
    have bA61 := bA61.tk (tk_same ss70)
    have bA67 := bA67.tk (tk_same ss70)
    have bX68 := bX68.tk (tk_same ss70)
    refine ⟨rfl, ?_⟩
    rw [show decide (V.int 3 = V.int 3) = true from decide_eq_true (congrArg V.int (rfl))]
    exact q _ tw.fr
end
end K64

set_option Elab.async false
set_option linter.all false
set_option maxRecDepth 100000
namespace K64
open PySem PySem.Spec PyProof.Rows L2 NB

/-! ### a hand without a rule, with another number, with two rules -/
def nl (p : Int) (w : Option Wi) : Hd := ⟨0, p, w, []⟩
section
variable {i : Nat} {p n m c k pl c3 c4 : Int} {w o : Option Wi} {q : Rl} {a : Str}
theorem nl_same (h : wishN o ≤ wishN w) : (nl p w).hear (a, [n, k], o) = (nl p w, ([] : List Bt)) := by
  rw [hear_two]
  show ((nl p w).hw o, _) = _
  unfold Hd.hw
  rw [if_neg (by show ¬ wishN w < wishN o; omega)]
theorem nl_up (h : wishN w < wishN o) : (nl p w).hear (a, [n, k], o) = (nl p o, ([] : List Bt)) := by
  rw [hear_two]
  show ((nl p w).hw o, _) = _
  unfold Hd.hw
  rw [if_pos (by show wishN w < wishN o; omega)]
  rfl
theorem st_nil {g : Int} (hw : w ≠ none) (hg : (nl p w).goal = g) : StP (nl p w) g := by
  refine Gone.stop (h := nl p w) (by unfold nl; simp) ⟨.inr hw, ?_⟩ (.inl hg)
  rw [hg]
  by_cases pg : p ≤ g
  · exact .inl ⟨pg, Int.le_refl _, fun x _ _ => rfl⟩
  · exact .inr ⟨by show g ≤ p; omega, Int.le_refl _, fun x _ _ => rfl⟩
theorem hear_other (h : wishN o ≤ wishN w) (ne : n ≠ m) : (one i p w n q c).hear (a, [m, k], o) = (one i p w n q c, ([] : List Bt)) := by
  have e : look (one i p w n q c).rows m = none := by
    unfold one
    rw [look_cons, if_neg ne]
    rfl
  rw [hear_two, e]
  show ((one i p w n q c).hw o, _) = _
  rw [hw_same h]
def RB (pl : Int) : Rl := ((2, true, pl), (0, false, pl))
def tri (pl p : Int) (w : Option Wi) (c3 c4 : Int) : Hd := ⟨0, p, w, [(3, RA pl, c3), (4, RB pl, c4)]⟩
theorem look3 : look (tri pl p w c3 c4).rows 3 = some (RA pl, c3) := by
  unfold tri
  rw [look_cons]
  rfl
theorem look4 : look (tri pl p w c3 c4).rows 4 = some (RB pl, c4) := by
  unfold tri
  rw [look_cons, if_neg (show ¬ (3 : Int) = 4 by decide), look_cons]
  rfl
theorem tri_word (h : wishN w < wishN o) : (tri pl p w c3 c4).hear ("word", [], o) = (tri pl p o c3 c4, ([] : List Bt)) := by
  rw [hear_none rfl]
  show ((tri pl p w c3 c4).hw o, _) = _
  unfold Hd.hw
  rw [if_pos (by show wishN w < wishN o; omega)]
  rfl
theorem tri_leave4 (h : wishN o ≤ wishN w) : (tri pl p w c3 c4).hear ("leave", [4, k], o) = (tri pl p w c3 (mx c4 k), ([] : List Bt)) := by
  have e : (tri pl p w c3 c4).hw o = tri pl p w c3 c4 := by
    unfold Hd.hw
    exact if_neg (by show ¬ wishN w < wishN o; omega)
  rw [hear_at look4 rfl, e]
  unfold Hd.hear2
  rw [if_pos (by rw [decide_eq_true (rfl : ("leave" : Str) = "leave")]; rfl)]
  rfl
theorem tri_leave3 (h : wishN o ≤ wishN w) : (tri pl p w c3 c4).hear ("leave", [3, k], o) = (tri pl p w (mx c3 k) c4, ([] : List Bt)) := by
  have e : (tri pl p w c3 c4).hw o = tri pl p w c3 c4 := by
    unfold Hd.hw
    exact if_neg (by show ¬ wishN w < wishN o; omega)
  rw [hear_at look3 rfl, e]
  unfold Hd.hear2
  rw [if_pos (by rw [decide_eq_true (rfl : ("leave" : Str) = "leave")]; rfl)]
  rfl
theorem tri_let {x : Int} : (tri pl p w c3 c4).letP x = ((decide (c3 % 2 = 0) || decide (x ≤ pl)) && (!decide (c4 % 2 = 0) || decide (x ≤ pl))) := by
  have l4 : leaveB 0 (RB pl) c4 = !decide (c4 % 2 = 0) := by
    unfold leaveB RB
    cases decide (c4 % 2 = 0) <;> rfl
  unfold tri Hd.letP
  rw [List.all_cons, List.all_cons, List.all_nil, Bool.and_true]
  show ((leaveB 0 (RA pl) c3 || _) && (leaveB 0 (RB pl) c4 || _)) = _
  rw [lvA, l4]
  rfl
theorem nd_tri : (((tri pl p w c3 c4).rows).map (·.1)).Nodup := by
  unfold tri
  simp
theorem tri_up {g : Int} (hw : w ≠ none) (hg : (tri pl p w c3 c4).goal = g) (pt : p ≤ pl) (tg : pl < g) (l : (decide (c3 % 2 = 0) && !decide (c4 % 2 = 0)) = false) : StP (tri pl p w c3 c4) pl := by
  refine Gone.stop nd_tri ⟨.inr hw, .inl ⟨pt, by omega, fun x a b => ?_⟩⟩ (.inr ?_)
  · rw [tri_let, decide_eq_true b, Bool.or_true, Bool.or_true]
    rfl
  · unfold nxt
    rw [if_pos (by omega), tri_let, decide_eq_false (show ¬ pl + 1 ≤ pl by omega), Bool.or_false, Bool.or_false]
    exact l
theorem tri_goal {g : Int} (hw : w ≠ none) (hg : (tri pl p w c3 c4).goal = g) (pg : p ≤ g) (l3 : decide (c3 % 2 = 0) = true) (l4 : decide (c4 % 2 = 0) = false) : StP (tri pl p w c3 c4) g := by
  refine Gone.stop nd_tri ⟨.inr hw, ?_⟩ (.inl hg)
  rw [hg]
  refine .inl ⟨pg, Int.le_refl _, fun x _ _ => ?_⟩
  rw [tri_let, l3, l4]
  rfl
theorem sh_tri : ShL (tri pl p w c3 c4) [3, 4] := by
  refine ⟨[3, 4], List.Perm.refl _, by decide, ?_⟩
  have e3 : (tri pl p w c3 c4).shares 3 = true := by
    unfold Hd.shares
    rw [look3]
    rfl
  have e4 : (tri pl p w c3 c4).shares 4 = true := by
    unfold Hd.shares
    rw [look4]
    rfl
  rw [List.filter_cons_of_pos e3, List.filter_cons_of_pos e4, List.filter_nil]
theorem tri_lv3 : (tri pl p w c3 c4).lv 3 = decide (c3 % 2 = 0) := by
  unfold Hd.lv
  rw [look3]
  exact lvA pl c3
theorem tri_lv4 : (tri pl p w c3 c4).lv 4 = !decide (c4 % 2 = 0) := by
  unfold Hd.lv
  rw [look4]
  show leaveB 0 (RB pl) c4 = _
  unfold leaveB RB
  cases decide (c4 % 2 = 0) <;> rfl
theorem tri_ou3 : (tri pl p w c3 c4).ou 3 = !decide ((tri pl p w c3 c4).there ≤ pl) := by
  unfold Hd.ou
  rw [look3]
  exact outB_at _ _
theorem tri_ou4 : (tri pl p w c3 c4).ou 4 = !decide ((tri pl p w c3 c4).there ≤ pl) := by
  unfold Hd.ou
  rw [look4]
  exact outB_at _ _
theorem tri_lk {g : Int} (hg : (tri pl pl w c3 c4).goal = g) (pg : pl < g) (l3 : decide (c3 % 2 = 0) = false) {ys : List Int} (l4 : (decide (c4 % 2 = 0) = true ∧ ys = [3, 4]) ∨ (decide (c4 % 2 = 0) = false ∧ ys = [3])) : LkL (tri pl pl w c3 c4) ys := by
  have et : (tri pl pl w c3 c4).there = pl + 1 := by
    unfold Hd.there
    rw [hg]
    exact if_pos pg
  have o3 : (tri pl pl w c3 c4).ou 3 = true := by rw [tri_ou3, et, decide_eq_false (by omega)]; rfl
  have o4 : (tri pl pl w c3 c4).ou 4 = true := by rw [tri_ou4, et, decide_eq_false (by omega)]; rfl
  refine .inr ⟨by rw [hg]; show g ≠ pl; omega, [3, 4], sh_tri, ?_⟩
  rcases l4 with ⟨l4, rfl⟩ | ⟨l4, rfl⟩
  · have a : (([3, 4] : List Int).filter fun n => !(tri pl pl w c3 c4).lv n) = [3, 4] := by
      rw [List.filter_cons_of_pos (by rw [tri_lv3, l3]; rfl), List.filter_cons_of_pos (by rw [tri_lv4, l4]; rfl), List.filter_nil]
    rw [a, List.filter_cons_of_pos o3, List.filter_cons_of_pos o4, List.filter_nil]
  · have a : (([3, 4] : List Int).filter fun n => !(tri pl pl w c3 c4).lv n) = [3] := by
      rw [List.filter_cons_of_pos (by rw [tri_lv3, l3]; rfl), List.filter_cons_of_neg (by rw [tri_lv4, l4]; decide), List.filter_nil]
    rw [a, List.filter_cons_of_pos o3, List.filter_nil]
theorem wip3 {n a b c : Int} (hn : 1 ≤ n ∧ n < 10 ^ 30) (ha : 0 ≤ a ∧ a < 10 ^ 30) (hb : 0 ≤ b ∧ b < 10 ^ 30) (hc : 0 ≤ c ∧ c < 10 ^ 30) : WiP (n, [a, b, c]) := ⟨hn.1, hn.2, by simp, (show 3 ≤ 12 by decide), fun y hy => by
  rcases List.mem_cons.mp hy with rfl | hy
  · exact ha
  · rcases List.mem_cons.mp hy with rfl | hy
    · exact hb
    · rw [List.mem_singleton.mp hy]
      exact hc⟩
theorem tri_bt (hw : w ≠ none) {ys : List Int} (h : LkL (tri pl p w c3 c4) ys) : BtL (tri pl p w c3 c4) ((tri pl p w c3 c4).asks ys ++ [(1, (("word" : Str), [], w)), (2, (("word" : Str), [], w))]) := by
  refine ⟨ys, h, .inr ⟨hw, [3, 4], [1, 2], sh_tri, by decide, fun k => ?_, rfl⟩⟩
  have e3 : (tri pl p w c3 c4).othN 3 = 1 := by
    unfold Hd.othN
    rw [look3]
    rfl
  have e4 : (tri pl p w c3 c4).othN 4 = 2 := by
    unfold Hd.othN
    rw [look4]
    rfl
  rw [List.map_cons, List.map_cons, List.map_nil, e3, e4]
theorem tri_asks : (tri pl p w c3 c4).asks [3, 4] = [(1, (("ask" : Str), [3, c3], w)), (2, (("ask" : Str), [4, c4], w))] := by
  have e3 : (tri pl p w c3 c4).othN 3 = 1 := by
    unfold Hd.othN
    rw [look3]
    rfl
  have e4 : (tri pl p w c3 c4).othN 4 = 2 := by
    unfold Hd.othN
    rw [look4]
    rfl
  have f3 : (tri pl p w c3 c4).cntN 3 = c3 := by
    unfold Hd.cntN
    rw [look3]
  have f4 : (tri pl p w c3 c4).cntN 4 = c4 := by
    unfold Hd.cntN
    rw [look4]
  unfold Hd.asks
  rw [List.map_cons, List.map_cons, List.map_nil, e3, e4, f3, f4]
  rfl
end
end K64

set_option Elab.async false
set_option linter.all false
set_option maxRecDepth 100000
namespace K64
open PySem PySem.Spec PyProof.Rows L2 NB

/-! ### a rule put and dropped -/
section
variable {P : Program} {w : World} {K : PySem.W.Frag} {mg : Str → Option Value} {base : Heap}
abbrev a__law_put_and_dropped : Stmt := topS 28
abbrev n__law_put_and_dropped : List Str := ["_law_place", "_law_number", "_law_one", "_law_two_here", "_law_rule", "_law_wish", "_law_back"]
theorem sc__law_put_and_dropped : FnScope n__law_put_and_dropped ["_law_place", "_law_number"] (defScope a__law_put_and_dropped) := ⟨rfl, rfl, rfl, by decide +kernel, rfl, by decide +kernel, by decide +kernel⟩
set_option maxHeartbeats 8000000 in
theorem ok__law_put_and_dropped {f fTw : Addr} {fd fdTw : FuncData} {k : Nat} {C : Addr} (F : Fun K "_law_put_and_dropped" "_law_put_and_dropped" a__law_put_and_dropped f fd) (Tw : Kn P w K mg base 3 "_law_two" ["_law_place"] (spTwo C) fTw fdTw) (Hh : C8.Met P w K mg base 7 C "hear" (spHear C) []) (St1 : C8.Met P w K mg base 8 C "stride" (spStride C) []) (Hc : C8.Met P w K mg base 4 C "count_of" (spCount C) []) (Hv : C8.Met P w K mg base 5 C "has_leave" (spLeave C) []) (Hl : C8.Met P w K mg base 6 C "lacks" (spLkL C) []) (Hb : C8.Met P w K mg base 7 C "beat" (spBeat C) []) (Hp1 : C8.Met P w K mg base 3 C "put" (spHPut C) []) (Hx1 : C8.Met P w K mg base 3 C "drop" (spHDrop C) []) (X : HandTxt K C)  : FnOk P w K mg base CX0 (k + 9) f fd ["_law_place", "_law_number"] (spHist C) := by
  refine F.ok sc__law_put_and_dropped (fun vs H Q E h => ?_) (fun cdv A outer s H vs Q E hr h => ?_)
  · obtain ⟨pl, nu, rfl, _⟩ := h
    rfl
  · obtain ⟨pl, nu, rfl, hp1, hp2, hn1, hn2, q⟩ := h
    refine ⟨_, (pss_cons (ps_asg (pe_kn Tw hr (by omega) (pa_cons (pv 0) pa_nil)) (pg_tup rfl (pgs_cons (pg_name (i := 2) sc__law_put_and_dropped.nd rfl (.inl rfl)) (pgs_cons (pg_name (i := 3) sc__law_put_and_dropped.nd rfl (.inl rfl)) (pgs_cons (pg_name (i := 4) sc__law_put_and_dropped.nd rfl (.inl rfl)) pgs_nil)))))
      (pss_cons (ps_set (i := 5) sc__law_put_and_dropped.nd rfl (.inl rfl) (pe_tup (pa_cons (pv 1) (pa_cons (pe_tup (pa_cons (pe_op op_mul pe_int (pv 0)) (pa_cons pe_int pa_nil))) pa_nil))))
      (pss_cons (ps_expr (C8.pe_mt Hh hr (by omega) (pv 2) (pa_cons (pe_tup (pa_cons pe_str (pa_cons (pv 5) pa_nil))) pa_nil)))
      (pss_cons (ps_if (PW.pt (pw_or (pt_cmpR op_ne (C8.pe_mt0 St1 hr (by omega) (pv 2)) (pv 0) (nomark _)) (pw_or (pt_cmpR op_notN (C8.pe_mt Hx1 hr (by omega) (pv 2) (pa_cons pe_int pa_nil)) pe_non (nomark _)) (pw_or1 (pt_cmpR op_ne (C8.pe_mt0 St1 hr (by omega) (pv 2)) (pv 0) (nomark _)))))) (pss_one (ps_ret pe_bl)) pss_nil)
      (pss_cons (ps_if (PW.pt (pw_or (pt_cmpR (op_neD hr.units) (C8.pe_mt Hh hr (by omega) (pv 2) (pa_cons (pe_tup (pa_cons pe_str (pa_cons pe_int (pa_cons pe_int (pa_cons (pv 5) pa_nil))))) pa_nil)) (pe_tup pa_nil) (nomark _)) (pw_or1 (pt_cmpR (op_neD hr.units) (C8.pe_mt Hh hr (by omega) (pv 2) (pa_cons (pe_tup (pa_cons pe_str (pa_cons pe_int (pa_cons pe_int (pa_cons (pv 5) pa_nil))))) pa_nil)) (pe_tup pa_nil) (nomark _))))) (pss_one (ps_ret pe_bl)) pss_nil)
      (pss_cons (ps_set (i := 6) sc__law_put_and_dropped.nd rfl (.inl rfl) (pe_tup (pa_cons (pe_op op_add (pv 1) pe_int) (pa_cons (pe_tup (pa_cons pe_int (pa_cons pe_int pa_nil))) pa_nil))))
      (pss_cons (ps_if (PW.pt (pw_or (pt_cmpR (op_neD hr.units) (C8.pe_mt Hh hr (by omega) (pv 2) (pa_cons (pe_tup (pa_cons pe_str (pa_cons pe_int (pa_cons pe_int (pa_cons (pv 6) pa_nil))))) pa_nil)) (pe_tup pa_nil) (nomark _)) (pw_or (pt_cmpR (op_neD hr.units) (pe_fld (pv 2) rfl) (pv 6) (nomark _)) (pw_or1 (pt_cmpR op_notN (C8.pe_mt Hp1 hr (by omega) (pv 2) (pa_cons pe_int (pa_cons (pv 4) (pa_cons pe_int pa_nil)))) pe_non (nomark _)))))) (pss_one (ps_ret pe_bl)) pss_nil)
      (pss_cons (ps_if (PW.pt (pw_or (pt_cmpR op_notBl (C8.pe_mt Hv hr (by omega) (pv 2) (pa_cons pe_int pa_nil)) pe_bl (nomark _)) (pw_or (pt_cmpR op_ne (C8.pe_mt0 St1 hr (by omega) (pv 2)) (pe_op op_mul pe_int (pv 0)) (nomark _)) (pw_or1 (pt_cmpR (op_neD hr.units) (C8.pe_mt Hh hr (by omega) (pv 2) (pa_cons (pe_tup (pa_cons pe_str (pa_cons pe_int (pa_cons pe_int (pa_cons (pv 5) pa_nil))))) pa_nil)) (pe_tup pa_nil) (nomark _)))))) (pss_one (ps_ret pe_bl)) pss_nil)
      (pss_cons (ps_if (pt_cmpR (op_neD hr.units) (C8.pe_mt Hh hr (by omega) (pv 2) (pa_cons (pe_tup (pa_cons pe_str (pa_cons pe_int (pa_cons pe_int (pa_cons (pv 6) pa_nil))))) pa_nil)) (pe_tup (pa_cons (pe_tup (pa_cons pe_int (pa_cons (pe_tup (pa_cons pe_str (pa_cons pe_int (pa_cons pe_int (pa_cons (pv 6) pa_nil))))) pa_nil))) pa_nil)) (nomark _)) (pss_one (ps_ret pe_bl)) pss_nil)
      (pss_one (ps_ret (pe_cmpR (op_eqD hr.units) (C8.pe_mt0 Hb hr (by omega) (pv 2)) (pe_tup (pa_cons (pe_tup (pa_cons pe_int (pa_cons (pe_tup (pa_cons pe_str (pa_cons (pv 6) pa_nil))) pa_nil))) pa_nil)) (nomark _))))))))))))), ?_⟩
    refine ⟨_, rfl, pl, rfl, fun H1 G0 r x D T y E F eG0 rA tw => ⟨G0, _, rfl, .inl (.inl eG0), rfl, _, _, rfl, _, _, rfl, _, _, rfl, rfl, ?_⟩⟩
    try dsimp only [List.set]
    have tw := tw.one
    refine ⟨_, rfl, _, rfl, 2, _, rfl, rfl, .inl ⟨by decide, by decide⟩, (show 2 ≤ sizeLine by decide), fun X0 nX0 => ?_⟩
    have sX0 := same_new (o := HO.tup [V.int (2 * pl), V.int 0]) nX0
    have eX0 := new_at (o := HO.tup [V.int (2 * pl), V.int 0]) nX0
    have tw := tw.same sX0
    have rA := rA.tk (tk_same sX0)
    refine ⟨(show 2 ≤ sizeLine by decide), fun X1 nX1 => ?_⟩
    have sX1 := same_new (o := HO.tup [V.int nu, V.ref X0]) nX1
    have eX1 := new_at (o := HO.tup [V.int nu, V.ref X0]) nX1
    have tw := tw.same sX1
    have rA := rA.tk (tk_same sX1)
    have eX0 := (tk_same sX1) _ _ eX0
    have wX1 : WV _ (.ref X1) (some (nu, [(2 * pl), 0])) := ⟨X1, X0, rfl, eX1, eX0⟩
    have pX1 : WiP (nu, [(2 * pl), 0]) := wip ⟨by omega, by omega⟩ ⟨by omega, by omega⟩ ⟨by omega, by omega⟩
    try dsimp only [List.set]
    obtain ⟨dx2, vx2, i2, _⟩ := tw.a.in
    refine ⟨.ref x, rfl, x, dx2, _, rfl, i2, lkm, _, rfl, (show 2 ≤ sizeLine by decide), fun X3 nX3 => ?_⟩
    have sX3 := same_new (o := HO.tup [V.str "word", V.ref X1]) nX3
    have eX3 := new_at (o := HO.tup [V.str "word", V.ref X1]) nX3
    have tw := tw.same sX3
    have rA := rA.tk (tk_same sX3)
    have wX1 := wX1.tk (tk_same sX3)
    have lX3 : LetAt _ X3 (("word", [], some (nu, [(2 * pl), 0])) : Lt) := ⟨.ref X1, eX3, wX1⟩
    refine ⟨x, D, T, X3, (one 0 0 (none) 0 (RA pl) 1), (("word", [], some (nu, [(2 * pl), 0])) : Lt), rfl, tw.a, tw.nDT, lX3, (ltp0 pX1), (fun w e => by cases e; exact (show 0 < 2 by decide)), (show 1 ≤ 40 by decide), fun H4 an4 bb4 ha4 bA4 => ?_⟩
    rw [hear_word (by show (0 : Int) < nu; omega)] at ha4 bA4
    have ha4 : HandAt C _ x D T (one 0 0 ((some (nu, [(2 * pl), 0]))) 0 (RA pl) 1) := ha4
    have bA4 : BAt _ an4 ([] : List Bt) := bA4
    have tk4 := bb4.tk tw.a
    have rA := rA.tk (tk4)
    have wX1 := wX1.tk (tk4)
    have lX3 := lX3.tk (tk4)
    have tw := tw.left bb4 ha4
    obtain ⟨dx5, vx5, i5, _⟩ := tw.a.in
    refine ⟨.ref x, rfl, x, dx5, _, rfl, i5, lkm, x, D, T, (one 0 0 ((some (nu, [(2 * pl), 0]))) 0 (RA pl) 1), rfl, tw.a, tw.nDT, tw.u, (show 1 ≤ 40 by decide), (fun w e => by cases e; exact (show 0 < 2 by decide)), fun H6 q6 bb6 ha6 st6 => ?_⟩
    obtain rfl : pl = q6 := (st6.uniq (st_up (sRA pl) (g := 2 * pl) (fun z => by cases z) rfl (by omega) (by omega) (fun x hx => by rw [atA]; exact decide_eq_true hx) (lvA pl 1) (by rw [atA]; exact decide_eq_false (by omega)))).symm
    have ha6 : HandAt C _ x D T (one 0 pl ((some (nu, [(2 * pl), 0]))) 0 (RA pl) 1) := ha6
    have tk6 := bb6.tk tw.a
    have rA := rA.tk (tk6)
    have wX1 := wX1.tk (tk6)
    have lX3 := lX3.tk (tk6)
    have bA4 := bA4.tk (tk6)
    have tw := tw.left bb6 ha6
    refine ⟨_, rfl, rfl, _, rfl, ?_⟩
    refine iteNS (show V.int (if pl - 0 < 0 then -(pl - 0) else pl - 0) = V.int pl from congrArg V.int (by split <;> omega)) ?_
    obtain ⟨dx7, vx7, i7, _⟩ := tw.a.in
    refine ⟨.ref x, rfl, x, dx7, _, rfl, i7, lkm, x, D, T, (one 0 pl ((some (nu, [(2 * pl), 0]))) 0 (RA pl) 1), 0, rfl, tw.a, tw.nDT, tw.u, List.mem_singleton.mpr rfl, fun Hd0 fd0' ad0 ud0 => ?_⟩
    have ad0 : HandAt C _ x D T (nl pl ((some (nu, [(2 * pl), 0])))) := ad0
    have tkd0 := tw.tk fd0'
    have rA := rA.tk (tkd0)
    have wX1 := wX1.tk (tkd0)
    have lX3 := lX3.tk (tkd0)
    have bA4 := bA4.tk (tkd0)
    have tw := tw.dp fd0' ad0 ud0
    refine ⟨rfl, _, rfl, ?_⟩
    refine iteNS (show V.non = V.non from rfl) ?_
    obtain ⟨dx8, vx8, i8, _⟩ := tw.a.in
    refine ⟨.ref x, rfl, x, dx8, _, rfl, i8, lkm, x, D, T, (nl pl ((some (nu, [(2 * pl), 0])))), rfl, tw.a, tw.nDT, tw.u, (show 0 ≤ 40 by decide), (fun w e => by cases e; exact (show 0 < 2 by decide)), fun H9 q9 bb9 ha9 st9 => ?_⟩
    obtain rfl : (2 * pl) = q9 := (st9.uniq (st_nil (g := 2 * pl) (fun z => by cases z) rfl)).symm
    have ha9 : HandAt C _ x D T (nl (2 * pl) ((some (nu, [(2 * pl), 0])))) := ha9
    have tk9 := bb9.tk tw.a
    have rA := rA.tk (tk9)
    have wX1 := wX1.tk (tk9)
    have lX3 := lX3.tk (tk9)
    have bA4 := bA4.tk (tk9)
    have tw := tw.left bb9 ha9
    refine ⟨_, rfl, rfl, _, rfl, ?_⟩
    refine iteNS (show V.int (if (2 * pl) - pl < 0 then -((2 * pl) - pl) else (2 * pl) - pl) = V.int pl from congrArg V.int (by split <;> omega)) ?_
    obtain ⟨dx10, vx10, i10, _⟩ := tw.a.in
    refine ⟨.ref x, rfl, x, dx10, _, rfl, i10, lkm, _, rfl, (show 4 ≤ sizeLine by decide), fun X11 nX11 => ?_⟩
    have sX11 := same_new (o := HO.tup [V.str "ask", V.int 0, V.int 9, V.ref X1]) nX11
    have eX11 := new_at (o := HO.tup [V.str "ask", V.int 0, V.int 9, V.ref X1]) nX11
    have tw := tw.same sX11
    have rA := rA.tk (tk_same sX11)
    have wX1 := wX1.tk (tk_same sX11)
    have lX3 := lX3.tk (tk_same sX11)
    have bA4 := bA4.tk (tk_same sX11)
    have lX11 : LetAt _ X11 (("ask", [0, 9], some (nu, [(2 * pl), 0])) : Lt) := ⟨.ref X1, eX11, wX1⟩
    refine ⟨x, D, T, X11, (nl (2 * pl) ((some (nu, [(2 * pl), 0])))), (("ask", [0, 9], some (nu, [(2 * pl), 0])) : Lt), rfl, tw.a, tw.nDT, lX11, (ltp2 (.inl rfl) ⟨by decide, by decide⟩ ⟨by decide, by decide⟩ (fun w e => by cases e; exact pX1)), (fun w e => by cases e; exact (show 0 < 2 by decide)), (show 0 ≤ 40 by decide), fun H12 an12 bb12 ha12 bA12 => ?_⟩
    rw [nl_same (w := (some (nu, [(2 * pl), 0]))) (o := (some (nu, [(2 * pl), 0]))) (Int.le_refl _)] at ha12 bA12
    have ha12 : HandAt C _ x D T (nl (2 * pl) ((some (nu, [(2 * pl), 0])))) := ha12
    have bA12 : BAt _ an12 ([] : List Bt) := bA12
    have tk12 := bb12.tk tw.a
    have rA := rA.tk (tk12)
    have wX1 := wX1.tk (tk12)
    have lX3 := lX3.tk (tk12)
    have bA4 := bA4.tk (tk12)
    have lX11 := lX11.tk (tk12)
    have tw := tw.left bb12 ha12
    refine ⟨(show 0 ≤ sizeLine by decide), fun X13 nX13 => ?_⟩
    have sX13 := same_new (o := HO.tup []) nX13
    have eX13 := new_at (o := HO.tup []) nX13
    have tw := tw.same sX13
    have rA := rA.tk (tk_same sX13)
    have wX1 := wX1.tk (tk_same sX13)
    have lX3 := lX3.tk (tk_same sX13)
    have bA4 := bA4.tk (tk_same sX13)
    have lX11 := lX11.tk (tk_same sX13)
    have bA12 := bA12.tk (tk_same sX13)
    have bX13 : BAt _ X13 ([] : List Bt) := ⟨[], eX13, trivial⟩
    refine ⟨_, _, dp_bat bA12, dp_bat bX13, shb _ trivial, shb _ trivial, false, nqb ([] : List Bt) trivial, iteF ?_⟩
    obtain ⟨dx14, vx14, i14, _⟩ := tw.a.in
    refine ⟨.ref x, rfl, x, dx14, _, rfl, i14, lkm, _, rfl, (show 4 ≤ sizeLine by decide), fun X15 nX15 => ?_⟩
    have sX15 := same_new (o := HO.tup [V.str "leave", V.int 0, V.int 9, V.ref X1]) nX15
    have eX15 := new_at (o := HO.tup [V.str "leave", V.int 0, V.int 9, V.ref X1]) nX15
    have tw := tw.same sX15
    have rA := rA.tk (tk_same sX15)
    have wX1 := wX1.tk (tk_same sX15)
    have lX3 := lX3.tk (tk_same sX15)
    have bA4 := bA4.tk (tk_same sX15)
    have lX11 := lX11.tk (tk_same sX15)
    have lX15 : LetAt _ X15 (("leave", [0, 9], some (nu, [(2 * pl), 0])) : Lt) := ⟨.ref X1, eX15, wX1⟩
    refine ⟨x, D, T, X15, (nl (2 * pl) ((some (nu, [(2 * pl), 0])))), (("leave", [0, 9], some (nu, [(2 * pl), 0])) : Lt), rfl, tw.a, tw.nDT, lX15, (ltp2 (.inr rfl) ⟨by decide, by decide⟩ ⟨by decide, by decide⟩ (fun w e => by cases e; exact pX1)), (fun w e => by cases e; exact (show 0 < 2 by decide)), (show 0 ≤ 40 by decide), fun H16 an16 bb16 ha16 bA16 => ?_⟩
    rw [nl_same (w := (some (nu, [(2 * pl), 0]))) (o := (some (nu, [(2 * pl), 0]))) (Int.le_refl _)] at ha16 bA16
    have ha16 : HandAt C _ x D T (nl (2 * pl) ((some (nu, [(2 * pl), 0])))) := ha16
    have bA16 : BAt _ an16 ([] : List Bt) := bA16
    have tk16 := bb16.tk tw.a
    have rA := rA.tk (tk16)
    have wX1 := wX1.tk (tk16)
    have lX3 := lX3.tk (tk16)
    have bA4 := bA4.tk (tk16)
    have lX11 := lX11.tk (tk16)
    have lX15 := lX15.tk (tk16)
    have tw := tw.left bb16 ha16
    refine ⟨(show 0 ≤ sizeLine by decide), fun X17 nX17 => ?_⟩
    have sX17 := same_new (o := HO.tup []) nX17
    have eX17 := new_at (o := HO.tup []) nX17
    have tw := tw.same sX17
    have rA := rA.tk (tk_same sX17)
    have wX1 := wX1.tk (tk_same sX17)
    have lX3 := lX3.tk (tk_same sX17)
    have bA4 := bA4.tk (tk_same sX17)
    have lX11 := lX11.tk (tk_same sX17)
    have lX15 := lX15.tk (tk_same sX17)
    have bA16 := bA16.tk (tk_same sX17)
    have bX17 : BAt _ X17 ([] : List Bt) := ⟨[], eX17, trivial⟩
    refine ⟨_, _, dp_bat bA16, dp_bat bX17, shb _ trivial, shb _ trivial, false, nqb ([] : List Bt) trivial, iteF ?_⟩
    refine ⟨_, rfl, _, 1, rfl, rfl, (show 2 ≤ sizeLine by decide), fun X18 nX18 => ?_⟩
    have sX18 := same_new (o := HO.tup [V.int 0, V.int 0]) nX18
    have eX18 := new_at (o := HO.tup [V.int 0, V.int 0]) nX18
    have tw := tw.same sX18
    have rA := rA.tk (tk_same sX18)
    have wX1 := wX1.tk (tk_same sX18)
    have lX3 := lX3.tk (tk_same sX18)
    have bA4 := bA4.tk (tk_same sX18)
    have lX11 := lX11.tk (tk_same sX18)
    have lX15 := lX15.tk (tk_same sX18)
    refine ⟨(show 2 ≤ sizeLine by decide), fun X19 nX19 => ?_⟩
    have sX19 := same_new (o := HO.tup [V.int (nu + 1), V.ref X18]) nX19
    have eX19 := new_at (o := HO.tup [V.int (nu + 1), V.ref X18]) nX19
    have tw := tw.same sX19
    have rA := rA.tk (tk_same sX19)
    have wX1 := wX1.tk (tk_same sX19)
    have lX3 := lX3.tk (tk_same sX19)
    have bA4 := bA4.tk (tk_same sX19)
    have lX11 := lX11.tk (tk_same sX19)
    have lX15 := lX15.tk (tk_same sX19)
    have eX18 := (tk_same sX19) _ _ eX18
    have wX19 : WV _ (.ref X19) (some ((nu + 1), [0, 0])) := ⟨X19, X18, rfl, eX19, eX18⟩
    have pX19 : WiP ((nu + 1), [0, 0]) := wip ⟨by omega, by omega⟩ ⟨by omega, by omega⟩ ⟨by omega, by omega⟩
    try dsimp only [List.set]
    obtain ⟨dx20, vx20, i20, _⟩ := tw.a.in
    refine ⟨.ref x, rfl, x, dx20, _, rfl, i20, lkm, _, rfl, (show 4 ≤ sizeLine by decide), fun X21 nX21 => ?_⟩
    have sX21 := same_new (o := HO.tup [V.str "ask", V.int 0, V.int 9, V.ref X19]) nX21
    have eX21 := new_at (o := HO.tup [V.str "ask", V.int 0, V.int 9, V.ref X19]) nX21
    have tw := tw.same sX21
    have rA := rA.tk (tk_same sX21)
    have wX1 := wX1.tk (tk_same sX21)
    have lX3 := lX3.tk (tk_same sX21)
    have bA4 := bA4.tk (tk_same sX21)
    have lX11 := lX11.tk (tk_same sX21)
    have lX15 := lX15.tk (tk_same sX21)
    have wX19 := wX19.tk (tk_same sX21)
    have lX21 : LetAt _ X21 (("ask", [0, 9], some ((nu + 1), [0, 0])) : Lt) := ⟨.ref X19, eX21, wX19⟩
    refine ⟨x, D, T, X21, (nl (2 * pl) ((some (nu, [(2 * pl), 0])))), (("ask", [0, 9], some ((nu + 1), [0, 0])) : Lt), rfl, tw.a, tw.nDT, lX21, (ltp2 (.inl rfl) ⟨by decide, by decide⟩ ⟨by decide, by decide⟩ (fun w e => by cases e; exact pX19)), (fun w e => by cases e; exact (show 0 < 2 by decide)), (show 0 ≤ 40 by decide), fun H22 an22 bb22 ha22 bA22 => ?_⟩
    rw [nl_up (w := (some (nu, [(2 * pl), 0]))) (o := (some ((nu + 1), [0, 0]))) (by show (nu : Int) < nu + 1; omega)] at ha22 bA22
    have ha22 : HandAt C _ x D T (nl (2 * pl) ((some ((nu + 1), [0, 0])))) := ha22
    have bA22 : BAt _ an22 ([] : List Bt) := bA22
    have tk22 := bb22.tk tw.a
    have rA := rA.tk (tk22)
    have wX1 := wX1.tk (tk22)
    have lX3 := lX3.tk (tk22)
    have bA4 := bA4.tk (tk22)
    have lX11 := lX11.tk (tk22)
    have lX15 := lX15.tk (tk22)
    have wX19 := wX19.tk (tk22)
    have lX21 := lX21.tk (tk22)
    have tw := tw.left bb22 ha22
    refine ⟨(show 0 ≤ sizeLine by decide), fun X23 nX23 => ?_⟩
    have sX23 := same_new (o := HO.tup []) nX23
    have eX23 := new_at (o := HO.tup []) nX23
    have tw := tw.same sX23
    have rA := rA.tk (tk_same sX23)
    have wX1 := wX1.tk (tk_same sX23)
    have lX3 := lX3.tk (tk_same sX23)
    have bA4 := bA4.tk (tk_same sX23)
    have lX11 := lX11.tk (tk_same sX23)
    have lX15 := lX15.tk (tk_same sX23)
    have wX19 := wX19.tk (tk_same sX23)
    have lX21 := lX21.tk (tk_same sX23)
    have bA22 := bA22.tk (tk_same sX23)
    have bX23 : BAt _ X23 ([] : List Bt) := ⟨[], eX23, trivial⟩
    refine ⟨_, _, dp_bat bA22, dp_bat bX23, shb _ trivial, shb _ trivial, false, nqb ([] : List Bt) trivial, iteF ?_⟩
    obtain ⟨dz, vz, iz, wz⟩ := tw.a.in
    have wz : WV _ vz ((some ((nu + 1), [0, 0]))) := wz
    refine ⟨.ref x, rfl, x, C, dz, _, _, rfl, iz, X.cl, X.n3, lk3, _, rfl, _, _, dp_wish wz, dp_wish wX19, shw _, shw _, false, nqw _, iteF ?_⟩
    obtain ⟨dx24, vx24, i24, _⟩ := tw.a.in
    refine ⟨.ref x, rfl, x, dx24, _, rfl, i24, lkm, .ref r, rfl, x, D, T, r, (nl (2 * pl) ((some ((nu + 1), [0, 0])))), 7, 0, RA pl, rfl, tw.a, tw.nDT, tw.u, rA, List.not_mem_nil, (show 0 ≤ 60 by decide), fun Hd1 fd1' ad1 ud1 => ?_⟩
    have ad1 : HandAt C _ x D T (one 0 (2 * pl) ((some ((nu + 1), [0, 0]))) 7 (RA pl) 0) := ad1
    have tkd1 := tw.tk fd1'
    have rA := rA.tk (tkd1)
    have wX1 := wX1.tk (tkd1)
    have lX3 := lX3.tk (tkd1)
    have bA4 := bA4.tk (tkd1)
    have lX11 := lX11.tk (tkd1)
    have lX15 := lX15.tk (tkd1)
    have wX19 := wX19.tk (tkd1)
    have lX21 := lX21.tk (tkd1)
    have tw := tw.dp fd1' ad1 ud1
    refine ⟨rfl, _, rfl, ?_⟩
    refine iteNS (show V.non = V.non from rfl) ?_
    obtain ⟨dx25, vx25, i25, _⟩ := tw.a.in
    refine ⟨.ref x, rfl, x, dx25, _, rfl, i25, lkm, x, D, T, (one 0 (2 * pl) ((some ((nu + 1), [0, 0]))) 7 (RA pl) 0), 7, RA pl, 0, rfl, tw.a, look_one1, sRA pl, fun H26 ss26 => ?_⟩
    have tw := tw.same ss26
    have rA := rA.tk (tk_same ss26)
    have wX1 := wX1.tk (tk_same ss26)
    have lX3 := lX3.tk (tk_same ss26)
    have bA4 := bA4.tk (tk_same ss26)
    have lX11 := lX11.tk (tk_same ss26)
    have lX15 := lX15.tk (tk_same ss26)
    have wX19 := wX19.tk (tk_same ss26)
    have lX21 := lX21.tk (tk_same ss26)
    refine ⟨_, _, rfl, rfl, _, rfl, ?_⟩
    refine iteNS (show leaveB 0 (RA pl) 0 = true from lvA pl 0) ?_
    obtain ⟨dx27, vx27, i27, _⟩ := tw.a.in
    refine ⟨.ref x, rfl, x, dx27, _, rfl, i27, lkm, x, D, T, (one 0 (2 * pl) ((some ((nu + 1), [0, 0]))) 7 (RA pl) 0), rfl, tw.a, tw.nDT, tw.u, (show 1 ≤ 40 by decide), (fun w e => by cases e; exact (show 0 < 2 by decide)), fun H28 q28 bb28 ha28 st28 => ?_⟩
    obtain rfl : 0 = q28 := (st28.uniq (st_goal (sRA pl) (g := 0) (fun z => by cases z) rfl (.inl (lvA pl 0)))).symm
    have ha28 : HandAt C _ x D T (one 0 0 ((some ((nu + 1), [0, 0]))) 7 (RA pl) 0) := ha28
    have tk28 := bb28.tk tw.a
    have rA := rA.tk (tk28)
    have wX1 := wX1.tk (tk28)
    have lX3 := lX3.tk (tk28)
    have bA4 := bA4.tk (tk28)
    have lX11 := lX11.tk (tk28)
    have lX15 := lX15.tk (tk28)
    have wX19 := wX19.tk (tk28)
    have lX21 := lX21.tk (tk28)
    have tw := tw.left bb28 ha28
    refine ⟨_, rfl, 2, _, rfl, rfl, .inl ⟨by decide, by decide⟩, rfl, _, rfl, ?_⟩
    refine iteNS (show V.int (if 0 - (2 * pl) < 0 then -(0 - (2 * pl)) else 0 - (2 * pl)) = V.int (2 * pl) from congrArg V.int (by split <;> omega)) ?_
    obtain ⟨dx29, vx29, i29, _⟩ := tw.a.in
    refine ⟨.ref x, rfl, x, dx29, _, rfl, i29, lkm, _, rfl, (show 4 ≤ sizeLine by decide), fun X30 nX30 => ?_⟩
    have sX30 := same_new (o := HO.tup [V.str "leave", V.int 0, V.int 8, V.ref X1]) nX30
    have eX30 := new_at (o := HO.tup [V.str "leave", V.int 0, V.int 8, V.ref X1]) nX30
    have tw := tw.same sX30
    have rA := rA.tk (tk_same sX30)
    have wX1 := wX1.tk (tk_same sX30)
    have lX3 := lX3.tk (tk_same sX30)
    have bA4 := bA4.tk (tk_same sX30)
    have lX11 := lX11.tk (tk_same sX30)
    have lX15 := lX15.tk (tk_same sX30)
    have wX19 := wX19.tk (tk_same sX30)
    have lX21 := lX21.tk (tk_same sX30)
    have lX30 : LetAt _ X30 (("leave", [0, 8], some (nu, [(2 * pl), 0])) : Lt) := ⟨.ref X1, eX30, wX1⟩
    refine ⟨x, D, T, X30, (one 0 0 ((some ((nu + 1), [0, 0]))) 7 (RA pl) 0), (("leave", [0, 8], some (nu, [(2 * pl), 0])) : Lt), rfl, tw.a, tw.nDT, lX30, (ltp2 (.inr rfl) ⟨by decide, by decide⟩ ⟨by decide, by decide⟩ (fun w e => by cases e; exact pX1)), (fun w e => by cases e; exact (show 0 < 2 by decide)), (show 1 ≤ 40 by decide), fun H31 an31 bb31 ha31 bA31 => ?_⟩
    rw [hear_other (w := (some ((nu + 1), [0, 0]))) (o := (some (nu, [(2 * pl), 0]))) (by show nu ≤ nu + 1; omega) (by decide)] at ha31 bA31
    have ha31 : HandAt C _ x D T (one 0 0 ((some ((nu + 1), [0, 0]))) 7 (RA pl) 0) := ha31
    have bA31 : BAt _ an31 ([] : List Bt) := bA31
    have tk31 := bb31.tk tw.a
    have rA := rA.tk (tk31)
    have wX1 := wX1.tk (tk31)
    have lX3 := lX3.tk (tk31)
    have bA4 := bA4.tk (tk31)
    have lX11 := lX11.tk (tk31)
    have lX15 := lX15.tk (tk31)
    have wX19 := wX19.tk (tk31)
    have lX21 := lX21.tk (tk31)
    have lX30 := lX30.tk (tk31)
    have tw := tw.left bb31 ha31
    refine ⟨(show 0 ≤ sizeLine by decide), fun X32 nX32 => ?_⟩
    have sX32 := same_new (o := HO.tup []) nX32
    have eX32 := new_at (o := HO.tup []) nX32
    have tw := tw.same sX32
    have rA := rA.tk (tk_same sX32)
    have wX1 := wX1.tk (tk_same sX32)
    have lX3 := lX3.tk (tk_same sX32)
    have bA4 := bA4.tk (tk_same sX32)
    have lX11 := lX11.tk (tk_same sX32)
    have lX15 := lX15.tk (tk_same sX32)
    have wX19 := wX19.tk (tk_same sX32)
    have lX21 := lX21.tk (tk_same sX32)
    have lX30 := lX30.tk (tk_same sX32)
    have bA31 := bA31.tk (tk_same sX32)
    have bX32 : BAt _ X32 ([] : List Bt) := ⟨[], eX32, trivial⟩
    refine ⟨_, _, dp_bat bA31, dp_bat bX32, shb _ trivial, shb _ trivial, false, nqb ([] : List Bt) trivial, iteF ?_⟩
    obtain ⟨dx33, vx33, i33, _⟩ := tw.a.in
    refine ⟨.ref x, rfl, x, dx33, _, rfl, i33, lkm, _, rfl, (show 4 ≤ sizeLine by decide), fun X34 nX34 => ?_⟩
    have sX34 := same_new (o := HO.tup [V.str "ask", V.int 7, V.int 0, V.ref X19]) nX34
    have eX34 := new_at (o := HO.tup [V.str "ask", V.int 7, V.int 0, V.ref X19]) nX34
    have tw := tw.same sX34
    have rA := rA.tk (tk_same sX34)
    have wX1 := wX1.tk (tk_same sX34)
    have lX3 := lX3.tk (tk_same sX34)
    have bA4 := bA4.tk (tk_same sX34)
    have lX11 := lX11.tk (tk_same sX34)
    have lX15 := lX15.tk (tk_same sX34)
    have wX19 := wX19.tk (tk_same sX34)
    have lX21 := lX21.tk (tk_same sX34)
    have lX30 := lX30.tk (tk_same sX34)
    have lX34 : LetAt _ X34 (("ask", [7, 0], some ((nu + 1), [0, 0])) : Lt) := ⟨.ref X19, eX34, wX19⟩
    refine ⟨x, D, T, X34, (one 0 0 ((some ((nu + 1), [0, 0]))) 7 (RA pl) 0), (("ask", [7, 0], some ((nu + 1), [0, 0])) : Lt), rfl, tw.a, tw.nDT, lX34, (ltp2 (.inl rfl) ⟨by decide, by decide⟩ ⟨by decide, by decide⟩ (fun w e => by cases e; exact pX19)), (fun w e => by cases e; exact (show 0 < 2 by decide)), (show 1 ≤ 40 by decide), fun H35 an35 bb35 ha35 bA35 => ?_⟩
    rw [hear_give (w := (some ((nu + 1), [0, 0]))) (o := (some ((nu + 1), [0, 0]))) (v := (some ((nu + 1), [0, 0]))) (sRA pl) (.inr ⟨rfl, rfl⟩) (by decide) (lvA pl 0) (by rw [atA]; exact decide_eq_true (by omega))] at ha35 bA35
    have ha35 : HandAt C _ x D T (one 0 0 ((some ((nu + 1), [0, 0]))) 7 (RA pl) 1) := ha35
    have bA35 : BAt _ an35 ([(1, ("leave", [7, 1], (some ((nu + 1), [0, 0]))))] : List Bt) := bA35
    have tk35 := bb35.tk tw.a
    have rA := rA.tk (tk35)
    have wX1 := wX1.tk (tk35)
    have lX3 := lX3.tk (tk35)
    have bA4 := bA4.tk (tk35)
    have lX11 := lX11.tk (tk35)
    have lX15 := lX15.tk (tk35)
    have wX19 := wX19.tk (tk35)
    have lX21 := lX21.tk (tk35)
    have lX30 := lX30.tk (tk35)
    have lX34 := lX34.tk (tk35)
    have tw := tw.left bb35 ha35
    refine ⟨_, rfl, (show 4 ≤ sizeLine by decide), fun X36 nX36 => ?_⟩
    have sX36 := same_new (o := HO.tup [V.str "leave", V.int 7, V.int 1, V.ref X19]) nX36
    have eX36 := new_at (o := HO.tup [V.str "leave", V.int 7, V.int 1, V.ref X19]) nX36
    have tw := tw.same sX36
    have rA := rA.tk (tk_same sX36)
    have wX1 := wX1.tk (tk_same sX36)
    have lX3 := lX3.tk (tk_same sX36)
    have bA4 := bA4.tk (tk_same sX36)
    have lX11 := lX11.tk (tk_same sX36)
    have lX15 := lX15.tk (tk_same sX36)
    have wX19 := wX19.tk (tk_same sX36)
    have lX21 := lX21.tk (tk_same sX36)
    have lX30 := lX30.tk (tk_same sX36)
    have lX34 := lX34.tk (tk_same sX36)
    have bA35 := bA35.tk (tk_same sX36)
    have lX36 : LetAt _ X36 (("leave", [7, 1], some ((nu + 1), [0, 0])) : Lt) := ⟨.ref X19, eX36, wX19⟩
    refine ⟨(show 2 ≤ sizeLine by decide), fun X37 nX37 => ?_⟩
    have sX37 := same_new (o := HO.tup [V.int 1, V.ref X36]) nX37
    have eX37 := new_at (o := HO.tup [V.int 1, V.ref X36]) nX37
    have tw := tw.same sX37
    have rA := rA.tk (tk_same sX37)
    have wX1 := wX1.tk (tk_same sX37)
    have lX3 := lX3.tk (tk_same sX37)
    have bA4 := bA4.tk (tk_same sX37)
    have lX11 := lX11.tk (tk_same sX37)
    have lX15 := lX15.tk (tk_same sX37)
    have wX19 := wX19.tk (tk_same sX37)
    have lX21 := lX21.tk (tk_same sX37)
    have lX30 := lX30.tk (tk_same sX37)
    have lX34 := lX34.tk (tk_same sX37)
    have bA35 := bA35.tk (tk_same sX37)
    have lX36 := lX36.tk (tk_same sX37)
    have rX37 : PrAt _ X37 ((1, (("leave", [7, 1], some ((nu + 1), [0, 0])) : Lt)) : Bt) := ⟨X36, eX37, lX36⟩
    refine ⟨(show 1 ≤ sizeLine by decide), fun X38 nX38 => ?_⟩
    have sX38 := same_new (o := HO.tup [V.ref X37]) nX38
    have eX38 := new_at (o := HO.tup [V.ref X37]) nX38
    have tw := tw.same sX38
    have rA := rA.tk (tk_same sX38)
    have wX1 := wX1.tk (tk_same sX38)
    have lX3 := lX3.tk (tk_same sX38)
    have bA4 := bA4.tk (tk_same sX38)
    have lX11 := lX11.tk (tk_same sX38)
    have lX15 := lX15.tk (tk_same sX38)
    have wX19 := wX19.tk (tk_same sX38)
    have lX21 := lX21.tk (tk_same sX38)
    have lX30 := lX30.tk (tk_same sX38)
    have lX34 := lX34.tk (tk_same sX38)
    have bA35 := bA35.tk (tk_same sX38)
    have rX37 := rX37.tk (tk_same sX38)
    have bX38 : BAt _ X38 ([(1, (("leave", [7, 1], some ((nu + 1), [0, 0])) : Lt))] : List Bt) := ⟨[X37], eX38, ⟨rX37, trivial⟩⟩
    refine ⟨_, _, dp_bat bA35, dp_bat bX38, shb _ ⟨.inr (.inl rfl), trivial⟩, shb _ ⟨.inr (.inl rfl), trivial⟩, false, nqb ([(1, ("leave", [7, 1], (some ((nu + 1), [0, 0]))))] : List Bt) ⟨.inr (.inl rfl), trivial⟩, iteF ?_⟩
    obtain ⟨dx39, vx39, i39, _⟩ := tw.a.in
    refine ⟨.ref x, rfl, x, dx39, _, rfl, i39, lkm, x, D, T, (one 0 0 ((some ((nu + 1), [0, 0]))) 7 (RA pl) 1), rfl, tw.a, (show 1 ≤ 40 by decide), (fun w e => by cases e; exact (show 0 < 2 by decide)), fun H40 g40 bs40 ss40 bA40 bL40 => ?_⟩
    obtain rfl : bs40 = ([(1, ("word", [], (some ((nu + 1), [0, 0]))))] : List Bt) := bL40.uniq (bt_of (sRA pl) (fun z => by cases z) (lk_none (sRA pl) (.inl rfl)))
    have tw := tw.same ss40
    have rA := rA.tk (tk_same ss40)
    have wX1 := wX1.tk (tk_same ss40)
    have lX3 := lX3.tk (tk_same ss40)
    have bA4 := bA4.tk (tk_same ss40)
    have lX11 := lX11.tk (tk_same ss40)
    have lX15 := lX15.tk (tk_same ss40)
    have wX19 := wX19.tk (tk_same ss40)
    have lX21 := lX21.tk (tk_same ss40)
    have lX30 := lX30.tk (tk_same ss40)
    have lX34 := lX34.tk (tk_same ss40)
    refine ⟨_, rfl, (show 2 ≤ sizeLine by decide), fun X41 nX41 => ?_⟩
    have sX41 := same_new (o := HO.tup [V.str "word", V.ref X19]) nX41
    have eX41 := new_at (o := HO.tup [V.str "word", V.ref X19]) nX41
    have tw := tw.same sX41
    have rA := rA.tk (tk_same sX41)
    have wX1 := wX1.tk (tk_same sX41)
    have lX3 := lX3.tk (tk_same sX41)
    have bA4 := bA4.tk (tk_same sX41)
    have lX11 := lX11.tk (tk_same sX41)
    have lX15 := lX15.tk (tk_same sX41)
    have wX19 := wX19.tk (tk_same sX41)
    have lX21 := lX21.tk (tk_same sX41)
    have lX30 := lX30.tk (tk_same sX41)
    have lX34 := lX34.tk (tk_same sX41)
    have bA40 := bA40.tk (tk_same sX41)
    have lX41 : LetAt _ X41 (("word", [], some ((nu + 1), [0, 0])) : Lt) := ⟨.ref X19, eX41, wX19⟩
    refine ⟨(show 2 ≤ sizeLine by decide), fun X42 nX42 => ?_⟩
    have sX42 := same_new (o := HO.tup [V.int 1, V.ref X41]) nX42
    have eX42 := new_at (o := HO.tup [V.int 1, V.ref X41]) nX42
    have tw := tw.same sX42
    have rA := rA.tk (tk_same sX42)
    have wX1 := wX1.tk (tk_same sX42)
    have lX3 := lX3.tk (tk_same sX42)
    have bA4 := bA4.tk (tk_same sX42)
    have lX11 := lX11.tk (tk_same sX42)
    have lX15 := lX15.tk (tk_same sX42)
    have wX19 := wX19.tk (tk_same sX42)
    have lX21 := lX21.tk (tk_same sX42)
    have lX30 := lX30.tk (tk_same sX42)
    have lX34 := lX34.tk (tk_same sX42)
    have bA40 := bA40.tk (tk_same sX42)
    have lX41 := lX41.tk (tk_same sX42)
    have rX42 : PrAt _ X42 ((1, (("word", [], some ((nu + 1), [0, 0])) : Lt)) : Bt) := ⟨X41, eX42, lX41⟩
    refine ⟨(show 1 ≤ sizeLine by decide), fun X43 nX43 => ?_⟩
    have sX43 := same_new (o := HO.tup [V.ref X42]) nX43
    have eX43 := new_at (o := HO.tup [V.ref X42]) nX43
    have tw := tw.same sX43
    have rA := rA.tk (tk_same sX43)
    have wX1 := wX1.tk (tk_same sX43)
    have lX3 := lX3.tk (tk_same sX43)
    have bA4 := bA4.tk (tk_same sX43)
    have lX11 := lX11.tk (tk_same sX43)
    have lX15 := lX15.tk (tk_same sX43)
    have wX19 := wX19.tk (tk_same sX43)
    have lX21 := lX21.tk (tk_same sX43)
    have lX30 := lX30.tk (tk_same sX43)
    have lX34 := lX34.tk (tk_same sX43)
    have bA40 := bA40.tk (tk_same sX43)
    have rX42 := rX42.tk (tk_same sX43)
    have bX43 : BAt _ X43 ([(1, (("word", [], some ((nu + 1), [0, 0])) : Lt))] : List Bt) := ⟨[X42], eX43, ⟨rX42, trivial⟩⟩
    refine ⟨_, _, dp_bat bA40, dp_bat bX43, shb _ ⟨.inr (.inr rfl), trivial⟩, shb _ ⟨.inr (.inr rfl), trivial⟩, ?_⟩
    rw [eqb ([(1, ("word", [], (some ((nu + 1), [0, 0]))))] : List Bt) ⟨.inr (.inr rfl), trivial⟩]
    exact q _ tw.fr
end
end K64

set_option Elab.async false
set_option linter.all false
set_option maxRecDepth 100000
namespace K64
open PySem PySem.Spec PyProof.Rows L2 NB

/-! ### a leave asked for twice -/
section
variable {P : Program} {w : World} {K : PySem.W.Frag} {mg : Str → Option Value} {base : Heap}
abbrev a__law_three : Stmt := topS 27
abbrev n__law_three : List Str := ["_law_place", "_law_number", "_law_rules", "_law_mid", "_law_wish", "_law_asks"]
theorem sc__law_three : FnScope n__law_three ["_law_place", "_law_number"] (defScope a__law_three) := ⟨rfl, rfl, rfl, by decide +kernel, rfl, by decide +kernel, by decide +kernel⟩
set_option maxHeartbeats 8000000 in
theorem ok__law_three {f fTw : Addr} {fd fdTw : FuncData} {k : Nat} {C f0 : Addr} {fd0 : FuncData} (F : Fun K "_law_three" "_law_three" a__law_three f fd) (Tw : Kn P w K mg base 3 "_law_two" ["_law_place"] (spTwo C) fTw fdTw) (Hh : C8.Met P w K mg base 7 C "hear" (spHear C) []) (St1 : C8.Met P w K mg base 8 C "stride" (spStride C) []) (Hc : C8.Met P w K mg base 4 C "count_of" (spCount C) []) (Hv : C8.Met P w K mg base 5 C "has_leave" (spLeave C) []) (Hl : C8.Met P w K mg base 6 C "lacks" (spLkL C) []) (Hb : C8.Met P w K mg base 7 C "beat" (spBeat C) []) (X : HandTxt K C) (M : Mk K C f0) (GI : FnOk P w K mg base CX0 1 f0 fd0 ["self", "thing", "place", "rules"] (spHInit C)) (bI : Binds K fd0 ["self", "thing", "place", "rules"] []) (mgC : mg "Hand" = some (.ref C))  : FnOk P w K mg base CX0 (k + 9) f fd ["_law_place", "_law_number"] (spHist C) := by
  refine F.ok sc__law_three (fun vs H Q E h => ?_) (fun cdv A outer s H vs Q E hr h => ?_)
  · obtain ⟨pl, nu, rfl, _⟩ := h
    rfl
  · obtain ⟨pl, nu, rfl, hp1, hp2, hn1, hn2, q⟩ := h
    refine ⟨_, (pss_cons (ps_set (i := 2) sc__law_three.nd rfl (.inl rfl) (pe_tup (pa_cons (pe_tup (pa_cons (pe_tup (pa_cons pe_int (pa_cons pe_str (pa_cons (pv 0) pa_nil)))) (pa_cons (pe_tup (pa_cons pe_int (pa_cons pe_str (pa_cons (pv 0) pa_nil)))) pa_nil))) (pa_cons (pe_tup (pa_cons (pe_tup (pa_cons pe_int (pa_cons pe_str (pa_cons (pv 0) pa_nil)))) (pa_cons (pe_tup (pa_cons pe_int (pa_cons pe_str (pa_cons (pv 0) pa_nil)))) pa_nil))) pa_nil))))
      (pss_cons (ps_set (i := 3) sc__law_three.nd rfl (.inl rfl) (pe_make M GI (hr.mono (by omega)) (by rfl) mgC bI .nil pass0 (pa_cons pe_int (pa_cons pe_int (pa_cons (pe_tup (pa_cons (pe_tup (pa_cons pe_int (pa_cons (pe_ix ix_tup (pv 2) pe_int (fun _ _ => rfl)) (pa_cons pe_int pa_nil)))) (pa_cons (pe_tup (pa_cons pe_int (pa_cons (pe_ix ix_tup (pv 2) pe_int (fun _ _ => rfl)) (pa_cons pe_int pa_nil)))) pa_nil))) pa_nil)))))
      (pss_cons (ps_set (i := 4) sc__law_three.nd rfl (.inl rfl) (pe_tup (pa_cons (pv 1) (pa_cons (pe_tup (pa_cons (pe_op op_mul pe_int (pv 0)) (pa_cons (pv 0) (pa_cons (pv 0) pa_nil)))) pa_nil))))
      (pss_cons (ps_expr (C8.pe_mt Hh hr (by omega) (pv 3) (pa_cons (pe_tup (pa_cons pe_str (pa_cons (pv 4) pa_nil))) pa_nil)))
      (pss_cons (ps_if (PW.pt (pw_or (pt_cmpR op_ne (C8.pe_mt0 St1 hr (by omega) (pv 3)) (pv 0) (nomark _)) (pw_or1 (pt_cmpR (op_neD hr.units) (C8.pe_mt0 Hl hr (by omega) (pv 3)) (pe_tup (pa_cons pe_int (pa_cons pe_int pa_nil))) (nomark _))))) (pss_one (ps_ret pe_bl)) pss_nil)
      (pss_cons (ps_set (i := 5) sc__law_three.nd rfl (.inl rfl) (pe_tup (pa_cons (pe_tup (pa_cons pe_int (pa_cons (pe_tup (pa_cons pe_str (pa_cons pe_int (pa_cons pe_int (pa_cons (pv 4) pa_nil))))) pa_nil))) (pa_cons (pe_tup (pa_cons pe_int (pa_cons (pe_tup (pa_cons pe_str (pa_cons pe_int (pa_cons pe_int (pa_cons (pv 4) pa_nil))))) pa_nil))) (pa_cons (pe_tup (pa_cons pe_int (pa_cons (pe_tup (pa_cons pe_str (pa_cons (pv 4) pa_nil))) pa_nil))) (pa_cons (pe_tup (pa_cons pe_int (pa_cons (pe_tup (pa_cons pe_str (pa_cons (pv 4) pa_nil))) pa_nil))) pa_nil))))))
      (pss_cons (ps_if (PW.pt (pw_or (pt_cmpR (op_neD hr.units) (C8.pe_mt0 Hb hr (by omega) (pv 3)) (pv 5) (nomark _)) (pw_or1 (pt_cmpR (op_neD hr.units) (C8.pe_mt Hh hr (by omega) (pv 3) (pa_cons (pe_tup (pa_cons pe_str (pa_cons pe_int (pa_cons pe_int (pa_cons (pv 4) pa_nil))))) pa_nil)) (pe_tup pa_nil) (nomark _))))) (pss_one (ps_ret pe_bl)) pss_nil)
      (pss_cons (ps_if (PW.pt (pw_or (pt_cmpR op_ne (C8.pe_mt0 St1 hr (by omega) (pv 3)) pe_int (nomark _)) (pw_or1 (pt_cmpR (op_neD hr.units) (C8.pe_mt0 Hl hr (by omega) (pv 3)) (pe_tup (pa_cons pe_int pa_nil)) (nomark _))))) (pss_one (ps_ret pe_bl)) pss_nil)
      (pss_one (ps_ret (pe_and (pe_cmpR (op_eqD hr.units) (C8.pe_mt Hh hr (by omega) (pv 3) (pa_cons (pe_tup (pa_cons pe_str (pa_cons pe_int (pa_cons pe_int (pa_cons pe_non pa_nil))))) pa_nil)) (pe_tup pa_nil) (nomark _)) (pe_and (pe_cmpR op_eq (C8.pe_mt0 St1 hr (by omega) (pv 3)) (pv 0) (nomark _)) (pe_one (pe_cmpR (op_eqD hr.units) (C8.pe_mt0 Hl hr (by omega) (pv 3)) (pe_tup pa_nil) (nomark _))))))))))))))), ?_⟩
    have s0 : Same H H := Same.refl H
    refine ⟨_, rfl, (show 3 ≤ sizeLine by decide), fun X0 nX0 => ?_⟩
    have sX0 := same_new (o := HO.tup [V.int 0, V.str "to", V.int pl]) nX0
    have eX0 := new_at (o := HO.tup [V.int 0, V.str "to", V.int pl]) nX0
    have s0 := s0.trans sX0
    refine ⟨_, rfl, (show 3 ≤ sizeLine by decide), fun X1 nX1 => ?_⟩
    have sX1 := same_new (o := HO.tup [V.int 1, V.str "from", V.int pl]) nX1
    have eX1 := new_at (o := HO.tup [V.int 1, V.str "from", V.int pl]) nX1
    have s0 := s0.trans sX1
    have eX0 := (tk_same sX1) _ _ eX0
    refine ⟨(show 2 ≤ sizeLine by decide), fun X2 nX2 => ?_⟩
    have sX2 := same_new (o := HO.tup [V.ref X0, V.ref X1]) nX2
    have eX2 := new_at (o := HO.tup [V.ref X0, V.ref X1]) nX2
    have s0 := s0.trans sX2
    have eX0 := (tk_same sX2) _ _ eX0
    have eX1 := (tk_same sX2) _ _ eX1
    have r3 : RuleAt _ X2 (RA pl) := ⟨X0, X1, eX2, eX0, eX1⟩
    refine ⟨_, rfl, (show 3 ≤ sizeLine by decide), fun X3 nX3 => ?_⟩
    have sX3 := same_new (o := HO.tup [V.int 2, V.str "from", V.int pl]) nX3
    have eX3 := new_at (o := HO.tup [V.int 2, V.str "from", V.int pl]) nX3
    have s0 := s0.trans sX3
    have r3 := r3.keep (.same sX3)
    refine ⟨_, rfl, (show 3 ≤ sizeLine by decide), fun X4 nX4 => ?_⟩
    have sX4 := same_new (o := HO.tup [V.int 0, V.str "to", V.int pl]) nX4
    have eX4 := new_at (o := HO.tup [V.int 0, V.str "to", V.int pl]) nX4
    have s0 := s0.trans sX4
    have r3 := r3.keep (.same sX4)
    have eX3 := (tk_same sX4) _ _ eX3
    refine ⟨(show 2 ≤ sizeLine by decide), fun X5 nX5 => ?_⟩
    have sX5 := same_new (o := HO.tup [V.ref X3, V.ref X4]) nX5
    have eX5 := new_at (o := HO.tup [V.ref X3, V.ref X4]) nX5
    have s0 := s0.trans sX5
    have r3 := r3.keep (.same sX5)
    have eX3 := (tk_same sX5) _ _ eX3
    have eX4 := (tk_same sX5) _ _ eX4
    have r4 : RuleAt _ X5 (RB pl) := ⟨X3, X4, eX5, eX3, eX4⟩
    refine ⟨(show 2 ≤ sizeLine by decide), fun X6 nX6 => ?_⟩
    have sX6 := same_new (o := HO.tup [V.ref X2, V.ref X5]) nX6
    have eX6 := new_at (o := HO.tup [V.ref X2, V.ref X5]) nX6
    have s0 := s0.trans sX6
    have r3 := r3.keep (.same sX6)
    have r4 := r4.keep (.same sX6)
    try dsimp only [List.set]
    refine ⟨_, rfl, X6, _, 0, _, rfl, rfl, .inl (.inl eX6), atI_nat (j := 0) rfl, (show 3 ≤ sizeLine by decide), fun X7 nX7 => ?_⟩
    have sX7 := same_new (o := HO.tup [V.int 3, V.ref X2, V.int 1]) nX7
    have eX7 := new_at (o := HO.tup [V.int 3, V.ref X2, V.int 1]) nX7
    have s0 := s0.trans sX7
    have r3 := r3.keep (.same sX7)
    have r4 := r4.keep (.same sX7)
    have eX6 := (tk_same sX7) _ _ eX6
    refine ⟨_, rfl, X6, _, 1, _, rfl, rfl, .inl (.inl eX6), atI_nat (j := 1) rfl, (show 3 ≤ sizeLine by decide), fun X8 nX8 => ?_⟩
    have sX8 := same_new (o := HO.tup [V.int 4, V.ref X5, V.int 0]) nX8
    have eX8 := new_at (o := HO.tup [V.int 4, V.ref X5, V.int 0]) nX8
    have s0 := s0.trans sX8
    have r3 := r3.keep (.same sX8)
    have r4 := r4.keep (.same sX8)
    have eX6 := (tk_same sX8) _ _ eX6
    have eX7 := (tk_same sX8) _ _ eX7
    refine ⟨(show 2 ≤ sizeLine by decide), fun X9 nX9 => ?_⟩
    have sX9 := same_new (o := HO.tup [V.ref X7, V.ref X8]) nX9
    have eX9 := new_at (o := HO.tup [V.ref X7, V.ref X8]) nX9
    have s0 := s0.trans sX9
    have r3 := r3.keep (.same sX9)
    have r4 := r4.keep (.same sX9)
    have eX6 := (tk_same sX9) _ _ eX6
    have eX7 := (tk_same sX9) _ _ eX7
    have eX8 := (tk_same sX9) _ _ eX8
    have rw1 : RwAt _ X9 [(3, RA pl, 1), (4, RB pl, 0)] [(3, X2), (4, X5)] := ⟨[X7, X8], eX9, rfl, rfl, fun j a rr z h1 h2 h3 => by
      match j, h1, h2, h3 with
      | 0, h1, h2, h3 =>
        cases h1
        cases h2
        cases h3
        exact ⟨rfl, eX7, r3⟩
      | 1, h1, h2, h3 =>
        cases h1
        cases h2
        cases h3
        exact ⟨rfl, eX8, r4⟩⟩
    clear eX7 eX8 eX9 eX6 r3 r4
    refine fun x dx nx ndx ne => ?_
    refine ⟨x, dx, X9, 0, 0, [(3, RA pl, 1), (4, RB pl, 0)], [(3, X2), (4, X5)], rfl, upd_same, rw1.tk (tk_same ((same_new ndx).trans (same_new (by rw [upd_ne ne.symm]; exact nx)))), by simp, (show 2 ≤ 40 by decide), fun H3 D T k3 aA nDT nD nT uD => ⟨rfl, ?_⟩⟩
    have x1 := (same_new (o := HO.own x) ndx).trans (same_new (o := HO.ins C dx []) (by rw [upd_ne ne.symm]; exact nx))
    have nDx : D ≠ x := fun z => by rw [z, upd_same] at nD; cases nD
    have nDd : D ≠ dx := fun z => by rw [z, upd_ne ne, upd_same] at nD; cases nD
    have nTx : T ≠ x := fun z => by rw [z, upd_same] at nT; cases nT
    have nTd : T ≠ dx := fun z => by rw [z, upd_ne ne, upd_same] at nT; cases nT
    rw [upd_ne nDx, upd_ne nDd] at nD
    rw [upd_ne nTx, upd_ne nTd] at nT
    have tw : One C H H3 x D T (tri pl 0 none 1 0) := ⟨aA, uD, nDT, s0.free nx, s0.free nT, s0.free nD, s0.trans fun b o e => k3 b o (ne_of_none e nx) (x1 b o e)⟩
    clear rw1
    try dsimp only [List.set]
    refine ⟨_, rfl, _, rfl, 2, _, rfl, rfl, .inl ⟨by decide, by decide⟩, _, rfl, _, rfl, (show 3 ≤ sizeLine by decide), fun X10 nX10 => ?_⟩
    have sX10 := same_new (o := HO.tup [V.int (2 * pl), V.int pl, V.int pl]) nX10
    have eX10 := new_at (o := HO.tup [V.int (2 * pl), V.int pl, V.int pl]) nX10
    have tw := tw.same sX10
    refine ⟨(show 2 ≤ sizeLine by decide), fun X11 nX11 => ?_⟩
    have sX11 := same_new (o := HO.tup [V.int nu, V.ref X10]) nX11
    have eX11 := new_at (o := HO.tup [V.int nu, V.ref X10]) nX11
    have tw := tw.same sX11
    have eX10 := (tk_same sX11) _ _ eX10
    have wX11 : WV _ (.ref X11) (some (nu, [(2 * pl), pl, pl])) := ⟨X11, X10, rfl, eX11, eX10⟩
    have pX11 : WiP (nu, [(2 * pl), pl, pl]) := wip3 ⟨by omega, by omega⟩ ⟨by omega, by omega⟩ ⟨by omega, by omega⟩ ⟨by omega, by omega⟩
    try dsimp only [List.set]
    obtain ⟨dx12, vx12, i12, _⟩ := tw.a.in
    refine ⟨.ref x, rfl, x, dx12, _, rfl, i12, lkm, _, rfl, (show 2 ≤ sizeLine by decide), fun X13 nX13 => ?_⟩
    have sX13 := same_new (o := HO.tup [V.str "word", V.ref X11]) nX13
    have eX13 := new_at (o := HO.tup [V.str "word", V.ref X11]) nX13
    have tw := tw.same sX13
    have wX11 := wX11.tk (tk_same sX13)
    have lX13 : LetAt _ X13 (("word", [], some (nu, [(2 * pl), pl, pl])) : Lt) := ⟨.ref X11, eX13, wX11⟩
    refine ⟨x, D, T, X13, (tri pl 0 none 1 0), (("word", [], some (nu, [(2 * pl), pl, pl])) : Lt), rfl, tw.a, tw.nDT, lX13, (ltp0 pX11), (fun w e => by cases e; exact (show 0 < 3 by decide)), (show 2 ≤ 40 by decide), fun H14 an14 bb14 ha14 bA14 => ?_⟩
    rw [tri_word (by show (0 : Int) < nu; omega)] at ha14 bA14
    have ha14 : HandAt C _ x D T (tri pl 0 (some (nu, [(2 * pl), pl, pl])) 1 0) := ha14
    have bA14 : BAt _ an14 ([] : List Bt) := bA14
    have tk14 := bb14.tk tw.a
    have wX11 := wX11.tk (tk14)
    have lX13 := lX13.tk (tk14)
    have tw := tw.left bb14 ha14
    obtain ⟨dx15, vx15, i15, _⟩ := tw.a.in
    refine ⟨.ref x, rfl, x, dx15, _, rfl, i15, lkm, x, D, T, (tri pl 0 (some (nu, [(2 * pl), pl, pl])) 1 0), rfl, tw.a, tw.nDT, tw.u, (show 2 ≤ 40 by decide), (fun w e => by cases e; exact (show 0 < 3 by decide)), fun H16 q16 bb16 ha16 st16 => ?_⟩
    obtain rfl : pl = q16 := (st16.uniq (tri_up (g := 2 * pl) (fun z => by cases z) rfl (by omega) (by omega) rfl)).symm
    have ha16 : HandAt C _ x D T (tri pl pl (some (nu, [(2 * pl), pl, pl])) 1 0) := ha16
    have tk16 := bb16.tk tw.a
    have wX11 := wX11.tk (tk16)
    have lX13 := lX13.tk (tk16)
    have bA14 := bA14.tk (tk16)
    have tw := tw.left bb16 ha16
    refine ⟨_, rfl, rfl, _, rfl, ?_⟩
    refine iteNS (show V.int (if pl - 0 < 0 then -(pl - 0) else pl - 0) = V.int pl from congrArg V.int (by split <;> omega)) ?_
    obtain ⟨dx17, vx17, i17, _⟩ := tw.a.in
    refine ⟨.ref x, rfl, x, dx17, _, rfl, i17, lkm, x, D, T, (tri pl pl (some (nu, [(2 * pl), pl, pl])) 1 0), rfl, tw.a, (show 2 ≤ 40 by decide), (fun w e => by cases e; exact (show 0 < 3 by decide)), fun H18 g18 ys18 ss18 eg18 yL18 => ?_⟩
    obtain rfl : ys18 = ([3, 4] : List Int) := yL18.uniq (tri_lk (g := 2 * pl) rfl (by omega) rfl (.inl ⟨rfl, rfl⟩))
    have tw := tw.same ss18
    have wX11 := wX11.tk (tk_same ss18)
    have lX13 := lX13.tk (tk_same ss18)
    have bA14 := bA14.tk (tk_same ss18)
    have eg18 : _ = some (HO.tup ([V.int 3, V.int 4] : List V)) := eg18
    refine ⟨(show 2 ≤ sizeLine by decide), fun X19 nX19 => ?_⟩
    have sX19 := same_new (o := HO.tup [V.int 3, V.int 4]) nX19
    have eX19 := new_at (o := HO.tup [V.int 3, V.int 4]) nX19
    have tw := tw.same sX19
    have wX11 := wX11.tk (tk_same sX19)
    have lX13 := lX13.tk (tk_same sX19)
    have bA14 := bA14.tk (tk_same sX19)
    have eg18 := (tk_same sX19) _ _ eg18
    refine ⟨_, _, dp_tup (xs := [3, 4]) (.inl (.inl eg18)), dp_tup (xs := [3, 4]) (.inl (.inl eX19)), rfl, rfl, false, nqd rfl, iteF ?_⟩
    refine ⟨_, rfl, (show 4 ≤ sizeLine by decide), fun X20 nX20 => ?_⟩
    have sX20 := same_new (o := HO.tup [V.str "ask", V.int 3, V.int 1, V.ref X11]) nX20
    have eX20 := new_at (o := HO.tup [V.str "ask", V.int 3, V.int 1, V.ref X11]) nX20
    have tw := tw.same sX20
    have wX11 := wX11.tk (tk_same sX20)
    have lX13 := lX13.tk (tk_same sX20)
    have bA14 := bA14.tk (tk_same sX20)
    have lX20 : LetAt _ X20 (("ask", [3, 1], some (nu, [(2 * pl), pl, pl])) : Lt) := ⟨.ref X11, eX20, wX11⟩
    refine ⟨(show 2 ≤ sizeLine by decide), fun X21 nX21 => ?_⟩
    have sX21 := same_new (o := HO.tup [V.int 1, V.ref X20]) nX21
    have eX21 := new_at (o := HO.tup [V.int 1, V.ref X20]) nX21
    have tw := tw.same sX21
    have wX11 := wX11.tk (tk_same sX21)
    have lX13 := lX13.tk (tk_same sX21)
    have bA14 := bA14.tk (tk_same sX21)
    have lX20 := lX20.tk (tk_same sX21)
    have rX21 : PrAt _ X21 ((1, (("ask", [3, 1], some (nu, [(2 * pl), pl, pl])) : Lt)) : Bt) := ⟨X20, eX21, lX20⟩
    refine ⟨_, rfl, (show 4 ≤ sizeLine by decide), fun X22 nX22 => ?_⟩
    have sX22 := same_new (o := HO.tup [V.str "ask", V.int 4, V.int 0, V.ref X11]) nX22
    have eX22 := new_at (o := HO.tup [V.str "ask", V.int 4, V.int 0, V.ref X11]) nX22
    have tw := tw.same sX22
    have wX11 := wX11.tk (tk_same sX22)
    have lX13 := lX13.tk (tk_same sX22)
    have bA14 := bA14.tk (tk_same sX22)
    have rX21 := rX21.tk (tk_same sX22)
    have lX22 : LetAt _ X22 (("ask", [4, 0], some (nu, [(2 * pl), pl, pl])) : Lt) := ⟨.ref X11, eX22, wX11⟩
    refine ⟨(show 2 ≤ sizeLine by decide), fun X23 nX23 => ?_⟩
    have sX23 := same_new (o := HO.tup [V.int 2, V.ref X22]) nX23
    have eX23 := new_at (o := HO.tup [V.int 2, V.ref X22]) nX23
    have tw := tw.same sX23
    have wX11 := wX11.tk (tk_same sX23)
    have lX13 := lX13.tk (tk_same sX23)
    have bA14 := bA14.tk (tk_same sX23)
    have rX21 := rX21.tk (tk_same sX23)
    have lX22 := lX22.tk (tk_same sX23)
    have rX23 : PrAt _ X23 ((2, (("ask", [4, 0], some (nu, [(2 * pl), pl, pl])) : Lt)) : Bt) := ⟨X22, eX23, lX22⟩
    refine ⟨_, rfl, (show 2 ≤ sizeLine by decide), fun X24 nX24 => ?_⟩
    have sX24 := same_new (o := HO.tup [V.str "word", V.ref X11]) nX24
    have eX24 := new_at (o := HO.tup [V.str "word", V.ref X11]) nX24
    have tw := tw.same sX24
    have wX11 := wX11.tk (tk_same sX24)
    have lX13 := lX13.tk (tk_same sX24)
    have bA14 := bA14.tk (tk_same sX24)
    have rX21 := rX21.tk (tk_same sX24)
    have rX23 := rX23.tk (tk_same sX24)
    have lX24 : LetAt _ X24 (("word", [], some (nu, [(2 * pl), pl, pl])) : Lt) := ⟨.ref X11, eX24, wX11⟩
    refine ⟨(show 2 ≤ sizeLine by decide), fun X25 nX25 => ?_⟩
    have sX25 := same_new (o := HO.tup [V.int 1, V.ref X24]) nX25
    have eX25 := new_at (o := HO.tup [V.int 1, V.ref X24]) nX25
    have tw := tw.same sX25
    have wX11 := wX11.tk (tk_same sX25)
    have lX13 := lX13.tk (tk_same sX25)
    have bA14 := bA14.tk (tk_same sX25)
    have rX21 := rX21.tk (tk_same sX25)
    have rX23 := rX23.tk (tk_same sX25)
    have lX24 := lX24.tk (tk_same sX25)
    have rX25 : PrAt _ X25 ((1, (("word", [], some (nu, [(2 * pl), pl, pl])) : Lt)) : Bt) := ⟨X24, eX25, lX24⟩
    refine ⟨_, rfl, (show 2 ≤ sizeLine by decide), fun X26 nX26 => ?_⟩
    have sX26 := same_new (o := HO.tup [V.str "word", V.ref X11]) nX26
    have eX26 := new_at (o := HO.tup [V.str "word", V.ref X11]) nX26
    have tw := tw.same sX26
    have wX11 := wX11.tk (tk_same sX26)
    have lX13 := lX13.tk (tk_same sX26)
    have bA14 := bA14.tk (tk_same sX26)
    have rX21 := rX21.tk (tk_same sX26)
    have rX23 := rX23.tk (tk_same sX26)
    have rX25 := rX25.tk (tk_same sX26)
    have lX26 : LetAt _ X26 (("word", [], some (nu, [(2 * pl), pl, pl])) : Lt) := ⟨.ref X11, eX26, wX11⟩
    refine ⟨(show 2 ≤ sizeLine by decide), fun X27 nX27 => ?_⟩
    have sX27 := same_new (o := HO.tup [V.int 2, V.ref X26]) nX27
    have eX27 := new_at (o := HO.tup [V.int 2, V.ref X26]) nX27
    have tw := tw.same sX27
    have wX11 := wX11.tk (tk_same sX27)
    have lX13 := lX13.tk (tk_same sX27)
    have bA14 := bA14.tk (tk_same sX27)
    have rX21 := rX21.tk (tk_same sX27)
    have rX23 := rX23.tk (tk_same sX27)
    have rX25 := rX25.tk (tk_same sX27)
    have lX26 := lX26.tk (tk_same sX27)
    have rX27 : PrAt _ X27 ((2, (("word", [], some (nu, [(2 * pl), pl, pl])) : Lt)) : Bt) := ⟨X26, eX27, lX26⟩
    refine ⟨(show 4 ≤ sizeLine by decide), fun X28 nX28 => ?_⟩
    have sX28 := same_new (o := HO.tup [V.ref X21, V.ref X23, V.ref X25, V.ref X27]) nX28
    have eX28 := new_at (o := HO.tup [V.ref X21, V.ref X23, V.ref X25, V.ref X27]) nX28
    have tw := tw.same sX28
    have wX11 := wX11.tk (tk_same sX28)
    have lX13 := lX13.tk (tk_same sX28)
    have bA14 := bA14.tk (tk_same sX28)
    have rX21 := rX21.tk (tk_same sX28)
    have rX23 := rX23.tk (tk_same sX28)
    have rX25 := rX25.tk (tk_same sX28)
    have rX27 := rX27.tk (tk_same sX28)
    have bX28 : BAt _ X28 ([(1, (("ask", [3, 1], some (nu, [(2 * pl), pl, pl])) : Lt)), (2, (("ask", [4, 0], some (nu, [(2 * pl), pl, pl])) : Lt)), (1, (("word", [], some (nu, [(2 * pl), pl, pl])) : Lt)), (2, (("word", [], some (nu, [(2 * pl), pl, pl])) : Lt))] : List Bt) := ⟨[X21, X23, X25, X27], eX28, ⟨rX21, ⟨rX23, ⟨rX25, ⟨rX27, trivial⟩⟩⟩⟩⟩
    try dsimp only [List.set]
    obtain ⟨dx29, vx29, i29, _⟩ := tw.a.in
    refine ⟨.ref x, rfl, x, dx29, _, rfl, i29, lkm, x, D, T, (tri pl pl (some (nu, [(2 * pl), pl, pl])) 1 0), rfl, tw.a, (show 2 ≤ 40 by decide), (fun w e => by cases e; exact (show 0 < 3 by decide)), fun H30 g30 bs30 ss30 bA30 bL30 => ?_⟩
    obtain rfl : bs30 = ([(1, ("ask", [3, 1], (some (nu, [(2 * pl), pl, pl])))), (2, ("ask", [4, 0], (some (nu, [(2 * pl), pl, pl])))), (1, ("word", [], (some (nu, [(2 * pl), pl, pl])))), (2, ("word", [], (some (nu, [(2 * pl), pl, pl]))))] : List Bt) := bL30.uniq (by have := tri_bt (p := pl) (w := (some (nu, [(2 * pl), pl, pl]))) (c3 := 1) (c4 := 0) (fun z => by cases z) (tri_lk (g := 2 * pl) rfl (by omega) rfl (.inl ⟨rfl, rfl⟩)); rw [tri_asks] at this; exact this)
    have tw := tw.same ss30
    have wX11 := wX11.tk (tk_same ss30)
    have lX13 := lX13.tk (tk_same ss30)
    have bA14 := bA14.tk (tk_same ss30)
    have bX28 := bX28.tk (tk_same ss30)
    refine ⟨_, rfl, _, _, dp_bat bA30, dp_bat bX28, shb _ ⟨.inl rfl, .inl rfl, .inr (.inr rfl), .inr (.inr rfl), trivial⟩, shb _ ⟨.inl rfl, .inl rfl, .inr (.inr rfl), .inr (.inr rfl), trivial⟩, false, nqb ([(1, ("ask", [3, 1], (some (nu, [(2 * pl), pl, pl])))), (2, ("ask", [4, 0], (some (nu, [(2 * pl), pl, pl])))), (1, ("word", [], (some (nu, [(2 * pl), pl, pl])))), (2, ("word", [], (some (nu, [(2 * pl), pl, pl]))))] : List Bt) ⟨.inl rfl, .inl rfl, .inr (.inr rfl), .inr (.inr rfl), trivial⟩, iteF ?_⟩
    obtain ⟨dx31, vx31, i31, _⟩ := tw.a.in
    refine ⟨.ref x, rfl, x, dx31, _, rfl, i31, lkm, _, rfl, (show 4 ≤ sizeLine by decide), fun X32 nX32 => ?_⟩
    have sX32 := same_new (o := HO.tup [V.str "leave", V.int 4, V.int 1, V.ref X11]) nX32
    have eX32 := new_at (o := HO.tup [V.str "leave", V.int 4, V.int 1, V.ref X11]) nX32
    have tw := tw.same sX32
    have wX11 := wX11.tk (tk_same sX32)
    have lX13 := lX13.tk (tk_same sX32)
    have bA14 := bA14.tk (tk_same sX32)
    have lX32 : LetAt _ X32 (("leave", [4, 1], some (nu, [(2 * pl), pl, pl])) : Lt) := ⟨.ref X11, eX32, wX11⟩
    refine ⟨x, D, T, X32, (tri pl pl (some (nu, [(2 * pl), pl, pl])) 1 0), (("leave", [4, 1], some (nu, [(2 * pl), pl, pl])) : Lt), rfl, tw.a, tw.nDT, lX32, (ltp2 (.inr rfl) ⟨by decide, by decide⟩ ⟨by decide, by decide⟩ (fun w e => by cases e; exact pX11)), (fun w e => by cases e; exact (show 0 < 3 by decide)), (show 2 ≤ 40 by decide), fun H33 an33 bb33 ha33 bA33 => ?_⟩
    rw [tri_leave4 (w := (some (nu, [(2 * pl), pl, pl]))) (o := (some (nu, [(2 * pl), pl, pl]))) (Int.le_refl _)] at ha33 bA33
    have ha33 : HandAt C _ x D T (tri pl pl (some (nu, [(2 * pl), pl, pl])) 1 1) := ha33
    have bA33 : BAt _ an33 ([] : List Bt) := bA33
    have tk33 := bb33.tk tw.a
    have wX11 := wX11.tk (tk33)
    have lX13 := lX13.tk (tk33)
    have bA14 := bA14.tk (tk33)
    have lX32 := lX32.tk (tk33)
    have tw := tw.left bb33 ha33
    refine ⟨(show 0 ≤ sizeLine by decide), fun X34 nX34 => ?_⟩
    have sX34 := same_new (o := HO.tup []) nX34
    have eX34 := new_at (o := HO.tup []) nX34
    have tw := tw.same sX34
    have wX11 := wX11.tk (tk_same sX34)
    have lX13 := lX13.tk (tk_same sX34)
    have bA14 := bA14.tk (tk_same sX34)
    have lX32 := lX32.tk (tk_same sX34)
    have bA33 := bA33.tk (tk_same sX34)
    have bX34 : BAt _ X34 ([] : List Bt) := ⟨[], eX34, trivial⟩
    refine ⟨_, _, dp_bat bA33, dp_bat bX34, shb _ trivial, shb _ trivial, false, nqb ([] : List Bt) trivial, iteF ?_⟩
    obtain ⟨dx35, vx35, i35, _⟩ := tw.a.in
    refine ⟨.ref x, rfl, x, dx35, _, rfl, i35, lkm, x, D, T, (tri pl pl (some (nu, [(2 * pl), pl, pl])) 1 1), rfl, tw.a, tw.nDT, tw.u, (show 2 ≤ 40 by decide), (fun w e => by cases e; exact (show 0 < 3 by decide)), fun H36 q36 bb36 ha36 st36 => ?_⟩
    obtain rfl : pl = q36 := (st36.uniq (tri_up (g := 2 * pl) (fun z => by cases z) rfl (by omega) (by omega) rfl)).symm
    have ha36 : HandAt C _ x D T (tri pl pl (some (nu, [(2 * pl), pl, pl])) 1 1) := ha36
    have tk36 := bb36.tk tw.a
    have wX11 := wX11.tk (tk36)
    have lX13 := lX13.tk (tk36)
    have bA14 := bA14.tk (tk36)
    have lX32 := lX32.tk (tk36)
    have tw := tw.left bb36 ha36
    refine ⟨rfl, _, rfl, ?_⟩
    refine iteNS (show V.int (if pl - pl < 0 then -(pl - pl) else pl - pl) = V.int 0 from congrArg V.int (by split <;> omega)) ?_
    obtain ⟨dx37, vx37, i37, _⟩ := tw.a.in
    refine ⟨.ref x, rfl, x, dx37, _, rfl, i37, lkm, x, D, T, (tri pl pl (some (nu, [(2 * pl), pl, pl])) 1 1), rfl, tw.a, (show 2 ≤ 40 by decide), (fun w e => by cases e; exact (show 0 < 3 by decide)), fun H38 g38 ys38 ss38 eg38 yL38 => ?_⟩
    obtain rfl : ys38 = ([3] : List Int) := yL38.uniq (tri_lk (g := 2 * pl) rfl (by omega) rfl (.inr ⟨rfl, rfl⟩))
    have tw := tw.same ss38
    have wX11 := wX11.tk (tk_same ss38)
    have lX13 := lX13.tk (tk_same ss38)
    have bA14 := bA14.tk (tk_same ss38)
    have lX32 := lX32.tk (tk_same ss38)
    have eg38 : _ = some (HO.tup ([V.int 3] : List V)) := eg38
    refine ⟨(show 1 ≤ sizeLine by decide), fun X39 nX39 => ?_⟩
    have sX39 := same_new (o := HO.tup [V.int 3]) nX39
    have eX39 := new_at (o := HO.tup [V.int 3]) nX39
    have tw := tw.same sX39
    have wX11 := wX11.tk (tk_same sX39)
    have lX13 := lX13.tk (tk_same sX39)
    have bA14 := bA14.tk (tk_same sX39)
    have lX32 := lX32.tk (tk_same sX39)
    have eg38 := (tk_same sX39) _ _ eg38
    refine ⟨_, _, dp_tup (xs := [3]) (.inl (.inl eg38)), dp_tup (xs := [3]) (.inl (.inl eX39)), rfl, rfl, false, nqd rfl, iteF ?_⟩
    obtain ⟨dx40, vx40, i40, _⟩ := tw.a.in
    refine ⟨.ref x, rfl, x, dx40, _, rfl, i40, lkm, (show 4 ≤ sizeLine by decide), fun X41 nX41 => ?_⟩
    have sX41 := same_new (o := HO.tup [V.str "leave", V.int 3, V.int 2, V.non]) nX41
    have eX41 := new_at (o := HO.tup [V.str "leave", V.int 3, V.int 2, V.non]) nX41
    have tw := tw.same sX41
    have wX11 := wX11.tk (tk_same sX41)
    have lX13 := lX13.tk (tk_same sX41)
    have bA14 := bA14.tk (tk_same sX41)
    have lX32 := lX32.tk (tk_same sX41)
    have lX41 : LetAt _ X41 (("leave", [3, 2], none) : Lt) := ⟨.non, eX41, rfl⟩
    refine ⟨x, D, T, X41, (tri pl pl (some (nu, [(2 * pl), pl, pl])) 1 1), (("leave", [3, 2], none) : Lt), rfl, tw.a, tw.nDT, lX41, (ltp2 (.inr rfl) ⟨by decide, by decide⟩ ⟨by decide, by decide⟩ (fun w e => by cases e)), (fun w e => by cases e), (show 2 ≤ 40 by decide), fun H42 an42 bb42 ha42 bA42 => ?_⟩
    rw [tri_leave3 (w := (some (nu, [(2 * pl), pl, pl]))) (o := none) (by show (0 : Int) ≤ nu; omega)] at ha42 bA42
    have ha42 : HandAt C _ x D T (tri pl pl (some (nu, [(2 * pl), pl, pl])) 2 1) := ha42
    have bA42 : BAt _ an42 ([] : List Bt) := bA42
    have tk42 := bb42.tk tw.a
    have wX11 := wX11.tk (tk42)
    have lX13 := lX13.tk (tk42)
    have bA14 := bA14.tk (tk42)
    have lX32 := lX32.tk (tk42)
    have lX41 := lX41.tk (tk42)
    have tw := tw.left bb42 ha42
    refine ⟨(show 0 ≤ sizeLine by decide), fun X43 nX43 => ?_⟩
    have sX43 := same_new (o := HO.tup []) nX43
    have eX43 := new_at (o := HO.tup []) nX43
    have tw := tw.same sX43
    have wX11 := wX11.tk (tk_same sX43)
    have lX13 := lX13.tk (tk_same sX43)
    have bA14 := bA14.tk (tk_same sX43)
    have lX32 := lX32.tk (tk_same sX43)
    have lX41 := lX41.tk (tk_same sX43)
    have bA42 := bA42.tk (tk_same sX43)
    have bX43 : BAt _ X43 ([] : List Bt) := ⟨[], eX43, trivial⟩
    refine ⟨_, _, dp_bat bA42, dp_bat bX43, shb _ trivial, shb _ trivial, true, eqb ([] : List Bt) trivial, iteT ?_⟩
    obtain ⟨dx44, vx44, i44, _⟩ := tw.a.in
    refine ⟨.ref x, rfl, x, dx44, _, rfl, i44, lkm, x, D, T, (tri pl pl (some (nu, [(2 * pl), pl, pl])) 2 1), rfl, tw.a, tw.nDT, tw.u, (show 2 ≤ 40 by decide), (fun w e => by cases e; exact (show 0 < 3 by decide)), fun H45 q45 bb45 ha45 st45 => ?_⟩
    obtain rfl : (2 * pl) = q45 := (st45.uniq (tri_goal (g := 2 * pl) (fun z => by cases z) rfl (by omega) rfl rfl)).symm
    have ha45 : HandAt C _ x D T (tri pl (2 * pl) (some (nu, [(2 * pl), pl, pl])) 2 1) := ha45
    have tk45 := bb45.tk tw.a
    have wX11 := wX11.tk (tk45)
    have lX13 := lX13.tk (tk45)
    have bA14 := bA14.tk (tk45)
    have lX32 := lX32.tk (tk45)
    have lX41 := lX41.tk (tk45)
    have bA42 := bA42.tk (tk45)
    have bX43 := bX43.tk (tk45)
    have tw := tw.left bb45 ha45
    refine ⟨_, rfl, rfl, true, congrArg V.bl (decide_eq_true (show V.int (if (2 * pl) - pl < 0 then -((2 * pl) - pl) else (2 * pl) - pl) = V.int pl from congrArg V.int (by split <;> omega))), iteT ?_⟩
    obtain ⟨dx46, vx46, i46, _⟩ := tw.a.in
    refine ⟨.ref x, rfl, x, dx46, _, rfl, i46, lkm, x, D, T, (tri pl (2 * pl) (some (nu, [(2 * pl), pl, pl])) 2 1), rfl, tw.a, (show 2 ≤ 40 by decide), (fun w e => by cases e; exact (show 0 < 3 by decide)), fun H47 g47 ys47 ss47 eg47 yL47 => ?_⟩
    obtain rfl : ys47 = ([] : List Int) := yL47.uniq (.inl ⟨rfl, rfl⟩)
    have tw := tw.same ss47
    have wX11 := wX11.tk (tk_same ss47)
    have lX13 := lX13.tk (tk_same ss47)
    have bA14 := bA14.tk (tk_same ss47)
    have lX32 := lX32.tk (tk_same ss47)
    have lX41 := lX41.tk (tk_same ss47)
    have bA42 := bA42.tk (tk_same ss47)
    have bX43 := bX43.tk (tk_same ss47)
    have eg47 : _ = some (HO.tup ([] : List V)) := eg47
    refine ⟨(show 0 ≤ sizeLine by decide), fun X48 nX48 => ?_⟩
    have sX48 := same_new (o := HO.tup []) nX48
    have eX48 := new_at (o := HO.tup []) nX48
    have tw := tw.same sX48
    have wX11 := wX11.tk (tk_same sX48)
    have lX13 := lX13.tk (tk_same sX48)
    have bA14 := bA14.tk (tk_same sX48)
    have lX32 := lX32.tk (tk_same sX48)
    have lX41 := lX41.tk (tk_same sX48)
    have bA42 := bA42.tk (tk_same sX48)
    have bX43 := bX43.tk (tk_same sX48)
    have eg47 := (tk_same sX48) _ _ eg47
    refine ⟨_, _, dp_tup (xs := []) (.inl (.inl eg47)), dp_tup (xs := []) (.inl (.inl eX48)), rfl, rfl, ?_⟩
    exact q _ tw.fr
end
end K64

set_option Elab.async false
set_option linter.all false
set_option maxRecDepth 100000
set_option maxHeartbeats 1000000
/-! xs == [], xs != [], xs any list -/
namespace NB
open PySem PySem.Sem PySem.Builtin PyProof.Rows L2
variable {X : Cx}
theorem op_eq0L (hu : X.A.units < cLine) : OpR X (compareOp .Eq) (fun x y H Q => ∃ a b xs, x = .ref a ∧ y = .ref b ∧ SqL X.K H a xs ∧ SqL X.K H b [] ∧ Q (.bl xs.isEmpty) H) := by
  intro pins s σ H x y v u Q I rx ry h
  obtain ⟨a, b, xs, rfl, rfl, ha, hb, q⟩ := h
  cases rx
  cases ry
  obtain ⟨i1, r1, p1, _⟩ := I.list ha
  obtain ⟨i2, r2, p2, _⟩ := I.list hb
  cases r2
  cases xs with
  | nil =>
    cases r1
    refine SeqAt.eq_listAt (e := fun _ => true) p1.isList p2.isList rfl hu (fun j h1 h2 => absurd h2 (by simp)) ?_
    exact ⟨.bl true, H, I, rfl, q⟩
  | cons z zs =>
    cases r1
    refine SeqAt.eq_list_lengthsAt p1.isList p2.isList (by simp) hu ?_
    exact ⟨.bl false, H, I, rfl, q⟩
theorem op_ne0L (hu : X.A.units < cLine) : OpR X (compareOp .NotEq) (fun x y H Q => ∃ a b xs, x = .ref a ∧ y = .ref b ∧ SqL X.K H a xs ∧ SqL X.K H b [] ∧ Q (.bl (!xs.isEmpty)) H) := by
  intro pins s σ H x y v u Q I rx ry h
  obtain ⟨a, b, xs, rfl, rfl, ha, hb, q⟩ := h
  cases rx
  cases ry
  obtain ⟨i1, r1, p1, _⟩ := I.list ha
  obtain ⟨i2, r2, p2, _⟩ := I.list hb
  cases r2
  cases xs with
  | nil =>
    cases r1
    refine SeqAt.RcNeAt.lists (e := fun _ => true) p1.isList p2.isList rfl hu (fun j h1 h2 => absurd h2 (by simp)) X.prog X.w X.xe _ ?_
    exact ⟨.bl false, H, I, rfl, q⟩
  | cons z zs =>
    cases r1
    refine SeqAt.RcNeAt.lists_lengths p1.isList p2.isList (by simp) hu X.prog X.w X.xe _ ?_
    exact ⟨.bl true, H, I, rfl, q⟩
end NB

set_option Elab.async false
set_option linter.all false
set_option maxRecDepth 100000
namespace K64
open PySem PySem.Spec PyProof.Rows L2 NB

/-! ### the law: six histories in a drawn order -/
theorem map_eraseIdx' {α β : Type} (f : α → β) (xs : List α) (i : Nat) : (xs.map f).eraseIdx i = (xs.eraseIdx i).map f := by
  rw [List.eraseIdx_eq_take_drop_succ, List.eraseIdx_eq_take_drop_succ, List.map_append, List.map_take, List.map_drop]
theorem seq_ix {i : Int} {n : Nat} (h0 : 0 ≤ i) (h1 : i < n) : seqIndex? i n = some i.toNat := by
  unfold seqIndex?
  simp only [if_neg (show ¬ i < 0 by omega)]
  rw [if_pos (by simp; omega)]
/-- the histories known by their addresses -/
def sS (C : Addr) (fs : List Addr) : Addr → Option Sp := fun f => if f ∈ fs then some (spHist C) else none
section
variable {P : Program} {w : World} {K : PySem.W.Frag} {mg : Str → Option Value} {base : Heap}
theorem kn_held {C f : Addr} {fd : FuncData} {x : Str} {ps : List Str} (h : Kn P w K mg base 9 x ps (spHist C) f fd) : L2.Held P w K mg base 9 f (spHist C) := ⟨fd, ps, h.ok, h.kp, h.bi⟩
theorem held6 {C f1 f2 f3 f4 f5 f6 : Addr} (h1 : L2.Held P w K mg base 9 f1 (spHist C)) (h2 : L2.Held P w K mg base 9 f2 (spHist C)) (h3 : L2.Held P w K mg base 9 f3 (spHist C)) (h4 : L2.Held P w K mg base 9 f4 (spHist C)) (h5 : L2.Held P w K mg base 9 f5 (spHist C)) (h6 : L2.Held P w K mg base 9 f6 (spHist C)) : ∀ f sp, sS C [f1, f2, f3, f4, f5, f6] f = some sp → L2.Held P w K mg base 9 f sp := fun f sp h => by
  unfold sS at h
  by_cases c : f ∈ [f1, f2, f3, f4, f5, f6]
  · rw [if_pos c] at h
    cases h
    simp only [List.mem_cons, List.not_mem_nil, or_false] at c
    rcases c with rfl | rfl | rfl | rfl | rfl | rfl <;> assumption
  · rw [if_neg c] at h
    cases h
def spLaw (K : PySem.W.Frag) : Sp := fun vs H Q _ => ∃ (a : Addr) (ns : List Int), vs = [.ref a] ∧ SqL K H a (ns.map V.int) ∧ ns.length ≤ 63 ∧ ∀ H', Q (.bl true) H'
abbrev a_law : Stmt := topS 29
abbrev n_law : List Str := ["_law_script", "_law_k", "_law_pot_here", "_law_place", "_law_number", "_law_some", "_law_history"]
theorem sc_law : FnScope n_law ["_law_script"] (defScope a_law) := ⟨rfl, rfl, rfl, by decide +kernel, rfl, by decide +kernel, by decide +kernel⟩
set_option maxHeartbeats 8000000 in
theorem ok_law {f fPo fTk fL1 fL2 fL3 fL4 fL5 fL6 : Addr} {fd fdPo fdTk fdL1 fdL2 fdL3 fdL4 fdL5 fdL6 : FuncData} {k : Nat} {C : Addr} (F : Fun K "law" "law" a_law f fd) (Po : Kn P w K mg base 1 "_law_pot" ["_law_script", "_law_k"] (spPot K) fPo fdPo) (Tk : Kn P w K mg base 1 "_law_take" ["_law_pot_here", "_law_many"] spTake fTk fdTk) (L1 : Kn P w K mg base 9 "_law_lost_leave" ["_law_place", "_law_number"] (spHist C) fL1 fdL1) (L2 : Kn P w K mg base 9 "_law_late_double" ["_law_place", "_law_number"] (spHist C) fL2 fdL2) (L3 : Kn P w K mg base 9 "_law_elder_ask" ["_law_place", "_law_number"] (spHist C) fL3 fdL3) (L4 : Kn P w K mg base 9 "_law_asked_while_out" ["_law_place", "_law_number"] (spHist C) fL4 fdL4) (L5 : Kn P w K mg base 9 "_law_three" ["_law_place", "_law_number"] (spHist C) fL5 fdL5) (L6 : Kn P w K mg base 9 "_law_put_and_dropped" ["_law_place", "_law_number"] (spHist C) fL6 fdL6)  (m_len : mg "len" = none) (m_max : mg "max" = none) (m_min : mg "min" = none) (m_range : mg "range" = none) : FnOk P w K mg base CX0 (k + 10) f fd ["_law_script"] (spLaw K) := by
  refine F.ok sc_law (fun vs H Q E h => ?_) (fun cdv A outer s H vs Q E hr h => ?_)
  · obtain ⟨a, ns, rfl, _⟩ := h
    rfl
  · obtain ⟨a, ns, rfl, hS, hn, q⟩ := h
    refine ⟨_, (pss_cons (ps_for PassesOwn.never rfl (pi_range1 (by rfl) m_range (pa_cons (pe_callB (call_max2 rfl) (by rfl) m_max (by decide +kernel) (pa_cons pe_int (pa_cons (pe_callB (call_min2 rfl) (by rfl) m_min (by decide +kernel) (pa_cons pe_int (pa_cons (pe_callB call_len_seq (by rfl) m_len (by decide +kernel) (pa_cons (pv 0) pa_nil)) pa_nil))) pa_nil))) pa_nil)) (pg_name (i := 1) sc_law.nd rfl (.inl rfl))
        (pss_cons (ps_set (i := 2) sc_law.nd rfl (.inl rfl) (pe_kn Po hr (by omega) (pa_cons (pv 0) (pa_cons (pv 1) pa_nil))))
      (pss_cons (ps_par (i := 3) (j := 4) (by rfl) sc_law.nd rfl rfl (by decide) rfl rfl (pa_cons (pe_op op_add pe_int (pe_kn Tk hr (by omega) (pa_cons (pv 2) (pa_cons (pe_op (r := rI CPowW fun i j => .int (i ^ j.toNat)) op_powW pe_int pe_int) pa_nil)))) (pa_cons (pe_op op_add pe_int (pe_kn Tk hr (by omega) (pa_cons (pv 2) (pa_cons (pe_op (r := rI CPowW fun i j => .int (i ^ j.toNat)) op_powW pe_int pe_int) pa_nil)))) pa_nil)) (by rfl))
      (pss_cons (ps_set (i := 5) sc_law.nd rfl (.inl rfl) (pe_lst (pa_cons (pe_glob (v := .ref fL1) rfl L1.gl rfl) (pa_cons (pe_glob (v := .ref fL2) rfl L2.gl rfl) (pa_cons (pe_glob (v := .ref fL3) rfl L3.gl rfl) (pa_cons (pe_glob (v := .ref fL4) rfl L4.gl rfl) (pa_cons (pe_glob (v := .ref fL5) rfl L5.gl rfl) pa_nil)))))))
      (pss_cons (ps_expr (pe_bm PySem.F.plainAttrs_list PySem.F.slot_list_append PySem.F.type_list_append mt_append (pv 5) (pa_cons (pe_glob (v := .ref fL6) rfl L6.gl rfl) pa_nil)))
      (pss_one (ps_while PassesOwn.never (pt_cmpR (op_ne0L hr.units0) (pv 5) (pe_lst pa_nil) (nomark _))
        (pss_cons (ps_set (i := 6) sc_law.nd rfl (.inl rfl) (pe_bm PySem.F.plainAttrs_list PySem.F.slot_list_pop PySem.F.type_list_pop mt_popAt (pv 5) (pa_cons (pe_kn Tk hr (by omega) (pa_cons (pv 2) (pa_cons (pe_callB call_len_seq (by rfl) m_len (by decide +kernel) (pa_cons (pv 5) pa_nil)) pa_nil))) pa_nil)))
      (pss_one (ps_if (pt_not (pt_val (pe_callA (i := 6) (S := sS C [fL1, fL2, fL3, fL4, fL5, fL6]) (held6 (kn_held L1) (kn_held L2) (kn_held L3) (kn_held L4) (kn_held L5) (kn_held L6)) (hr.mono (by omega)) rfl (.inl rfl) (pa_cons (pv 3) (pa_cons (pv 4) pa_nil))))) (pss_one (ps_ret pe_bl)) pss_nil))))))))))
      (pss_one (ps_ret pe_bl))), ?_⟩
    refine ⟨.ref a, rfl, a, _, rfl, .inl hS, 4, _, rfl, 1, _, rfl, _, rfl, ?_, ?_, for_it walk_range (fun i σ H' => (∃ u1 u2 u3 u4 u5 u6, σ = [some (.ref a), u1, u2, u3, u4, u5, u6]) ∧ Same H H') ⟨⟨_, _, _, _, _, _, rfl⟩, Same.refl H⟩ (fun _ _ _ _ _ => trivial) (fun i v σ H0' H0 hi y z => ?_) (fun σ H0 y => q H0)⟩
    · split <;> split <;> omega
    · split <;> split <;> omega
    obtain ⟨⟨u1, u2, u3, u4, u5, u6, rfl⟩, s0⟩ := y
    obtain ⟨rfl, rfl⟩ := z
    have i5 : i < 5 := by
      revert hi
      split <;> split <;> intro hi <;> omega
    refine ⟨.ref a, rfl, _, rfl, a, ns, i, by show [V.ref a, V.int (0 + (i : Int))] = _; rw [Int.zero_add], s0.seq hS, by omega, fun H1 p s1 np pp1 => ?_⟩
    have npH : H p = none := s0.free np
    have B1 : But p H H1 := fun b o _ e => s1 _ _ (s0 _ _ e)
    dsimp only [List.set]
    have cw : CPowW 10 29 := ⟨by decide, by decide +kernel⟩
    have tl : (1 : Int) ≤ 10 ^ (29 : Int).toNat ∧ (10 : Int) ^ (29 : Int).toNat < 2 ^ 200 := by decide +kernel
    refine ⟨.ref p, rfl, 10, 29, rfl, rfl, cw, p, _, 0, rfl, pp1, tl.1, tl.2, by decide, fun d H2 b2 p2 d0 d1 => ?_⟩
    refine ⟨_, _, rfl, rfl, .ref p, rfl, 10, 29, rfl, rfl, cw, p, _, 1, rfl, p2, tl.1, tl.2, by decide, fun e H3 b3 p3 e0 e1 => ?_⟩
    refine ⟨_, _, rfl, rfl, _, _, rfl, ?_⟩
    rw [show ((10 : Int) ^ (29 : Int).toNat) = 10 ^ 29 from rfl] at d1 e1
    dsimp only [List.set]
    refine ⟨(show 5 ≤ sizeLine by decide), fun L nL => ?_⟩
    have sL := same_new (o := HO.lst [V.ref fL1, .ref fL2, .ref fL3, .ref fL4, .ref fL5]) nL
    have nLp : L ≠ p := p3.ne nL
    have B3 := (B1.trans b2).trans b3
    have nLH : H L = none := B3.free nLp nL
    refine ⟨_, rfl, .inl ⟨rfl, _, .inl (.inl upd_same)⟩, L, _, _, rfl, rfl, upd_same, (show 5 < sizeLine by decide), ?_⟩
    rw [upd_upd]
    dsimp only [List.cons_append, List.nil_append]
    have B4 : But p H (upd H3 L (.lst [V.ref fL1, .ref fL2, .ref fL3, .ref fL4, .ref fL5, .ref fL6])) := but_new B3 nLH
    have p4 : PotAt (upd H3 L (.lst [V.ref fL1, .ref fL2, .ref fL3, .ref fL4, .ref fL5, .ref fL6])) p 2 := pot_upd p3 nLp
    have e4 : (upd H3 L (.lst [V.ref fL1, .ref fL2, .ref fL3, .ref fL4, .ref fL5, .ref fL6])) L = some (.lst ([fL1, fL2, fL3, fL4, fL5, fL6].map V.ref)) := upd_same
    generalize (upd H3 L (.lst [V.ref fL1, .ref fL2, .ref fL3, .ref fL4, .ref fL5, .ref fL6])) = H4 at B4 p4 e4 ⊢
    have inS : ∀ f, f ∈ [fL1, fL2, fL3, fL4, fL5, fL6] → sS C [fL1, fL2, fL3, fL4, fL5, fL6] f = some (spHist C) := fun f h => by
      unfold sS
      exact if_pos h
    refine ⟨fun m σ H' => (∃ u6, σ = [some (.ref a), some (.int (0 + (i : Int))), some (.ref p), some (.int (1 + d)), some (.int (1 + e)), some (.ref L), u6]) ∧ But p H H' ∧ ∃ fs : List Addr, fs.length = m ∧ m ≤ 6 ∧ (∀ f ∈ fs, f ∈ [fL1, fL2, fL3, fL4, fL5, fL6]) ∧ H' L = some (.lst (fs.map V.ref)) ∧ PotAt H' p (10 - m), ⟨6, ⟨_, rfl⟩, B4, _, rfl, by decide, fun f h => h, e4, p4.mono (by decide)⟩, fun m σ H5 y => ?_⟩
    obtain ⟨⟨u6, rfl⟩, B5, fs, lf, m6, inF, e5, p5⟩ := y
    refine ⟨_, rfl, Nat.zero_le _, fun Z nZ => ⟨L, Z, _, rfl, rfl, .inl (.inl ((same_new nZ) _ _ e5)), .inl (.inl upd_same), ?_⟩⟩
    have sZ := same_new (o := HO.lst []) nZ
    have e6 := sZ _ _ e5
    have p6 := p5.keep sZ
    have B6 : But p H (upd H5 Z (.lst [])) := B5.trans (.of sZ)
    generalize upd H5 Z (.lst []) = H6 at e6 p6 B6 ⊢
    cases fs with
    | nil =>
      refine ⟨false, rfl, iteF ⟨⟨_, _, _, _, _, _, rfl⟩, fun b o h => B6 b o (ne_of_none h npH) h⟩⟩
    | cons f0 ft =>
    refine ⟨true, rfl, iteT ⟨fun σ' H' => ∃ m', m' < m ∧ (∃ u6, σ' = [some (.ref a), some (.int (0 + (i : Int))), some (.ref p), some (.int (1 + d)), some (.int (1 + e)), some (.ref L), u6]) ∧ But p H H' ∧ ∃ fs : List Addr, fs.length = m' ∧ m' ≤ 6 ∧ (∀ f ∈ fs, f ∈ [fL1, fL2, fL3, fL4, fL5, fL6]) ∧ H' L = some (.lst (fs.map V.ref)) ∧ PotAt H' p (10 - m'), fun σ' H' h => h, ?_⟩⟩
    refine ⟨_, rfl, .inl ⟨rfl, _, .inl (.inl e6)⟩, .ref p, rfl, _, rfl, L, _, rfl, .inl (.inl (.inl e6)), ?_⟩
    rw [List.length_map]
    have hl : (1 : Int) ≤ (((f0 :: ft).length : Nat) : Int) := by rw [List.length_cons]; omega
    have hm : (((f0 :: ft).length : Nat) : Int) ≤ 6 := by rw [lf]; omega
    refine ⟨p, _, _, rfl, p6, hl, Int.lt_of_le_of_lt hm (by decide), by omega, fun j H7 b7 p7 j0 j1 => ?_⟩
    have e7 := b7 _ _ nLp e6
    have hj : j.toNat < (f0 :: ft).length := by omega
    refine ⟨L, _, j, j.toNat, .ref (f0 :: ft)[j.toNat], rfl, rfl, e7, by omega, by omega, by rw [List.length_map]; exact seq_ix j0 j1, by rw [List.getElem?_map, List.getElem?_eq_getElem hj]; rfl, ?_⟩
    rw [map_eraseIdx']
    have B8 : But p H (upd H7 L (.lst (((f0 :: ft).eraseIdx j.toNat).map V.ref))) := but_new (B6.trans b7) nLH
    have p8 := pot_upd (o := .lst (((f0 :: ft).eraseIdx j.toNat).map V.ref)) p7 nLp
    have e8 : (upd H7 L (.lst (((f0 :: ft).eraseIdx j.toNat).map V.ref))) L = some (.lst (((f0 :: ft).eraseIdx j.toNat).map V.ref)) := upd_same
    generalize (upd H7 L (.lst (((f0 :: ft).eraseIdx j.toNat).map V.ref))) = H8 at B8 p8 e8 ⊢
    dsimp only [List.set]
    refine ⟨_, _, rfl, inS _ (inF _ (List.getElem_mem hj)), _, rfl, _, rfl, 1 + d, 1 + e, rfl, by omega, by omega, by omega, by omega, fun H9 s9 => ⟨true, rfl, iteF ?_⟩⟩
    have le : ((f0 :: ft).eraseIdx j.toNat).length = m - 1 := by rw [List.length_eraseIdx, if_pos hj, lf]
    have m1 : 0 < m := by omega
    exact ⟨m - 1, by omega, ⟨_, rfl⟩, B8.trans (.of s9), _, le, by omega, fun f hf => inF f (List.mem_of_mem_eraseIdx hf), s9 _ _ e8, (p8.keep s9).mono (by omega)⟩
end
end K64

set_option Elab.async false
set_option linter.all false
set_option maxRecDepth 100000
namespace K64
open PySem PySem.Spec PyProof.Rows L2 NB
set_option maxHeartbeats 8000000 in
theorem all_mk {l : PySem.W.OpenLaw} {w : World} {K : PySem.W.Frag} {h : Heap} {mg : Str → Option Value} {fa : Addr} (X : K.In h) (G : h.Ns mainGlobals mg) (hfa : mg "law" = some (.ref fa))
    {f1 : Addr} {od1 an1 : Option Addr} {sl1 : Array (Option Value)} {oc1 kV1 dc1 pm1 cd1 ct1 : Value}
    {f2 : Addr} {od2 an2 : Option Addr} {sl2 : Array (Option Value)} {oc2 kV2 dc2 pm2 cd2 ct2 : Value}
    {f3 : Addr} {od3 an3 : Option Addr} {sl3 : Array (Option Value)} {oc3 kV3 dc3 pm3 cd3 ct3 : Value}
    {f4 : Addr} {od4 an4 : Option Addr} {sl4 : Array (Option Value)} {oc4 kV4 dc4 pm4 cd4 ct4 : Value}
    {f5 : Addr} {od5 an5 : Option Addr} {sl5 : Array (Option Value)} {oc5 kV5 dc5 pm5 cd5 ct5 : Value}
    {f6 : Addr} {od6 an6 : Option Addr} {sl6 : Array (Option Value)} {oc6 kV6 dc6 pm6 cd6 ct6 : Value}
    {f7 : Addr} {od7 an7 : Option Addr} {sl7 : Array (Option Value)} {oc7 kV7 dc7 pm7 cd7 ct7 : Value}
    {f8 : Addr} {od8 an8 : Option Addr} {sl8 : Array (Option Value)} {oc8 kV8 dc8 pm8 cd8 ct8 : Value}
    {f9 : Addr} {od9 an9 : Option Addr} {sl9 : Array (Option Value)} {oc9 kV9 dc9 pm9 cd9 ct9 : Value}
    {f10 : Addr} {od10 an10 : Option Addr} {sl10 : Array (Option Value)} {oc10 kV10 dc10 pm10 cd10 ct10 : Value}
    {f11 : Addr} {od11 an11 : Option Addr} {sl11 : Array (Option Value)} {oc11 kV11 dc11 pm11 cd11 ct11 : Value}
    {f12 : Addr} {od12 an12 : Option Addr} {sl12 : Array (Option Value)} {oc12 kV12 dc12 pm12 cd12 ct12 : Value}
    {f13 : Addr} {od13 an13 : Option Addr} {sl13 : Array (Option Value)} {oc13 kV13 dc13 pm13 cd13 ct13 : Value}
    {f14 : Addr} {od14 an14 : Option Addr} {sl14 : Array (Option Value)} {oc14 kV14 dc14 pm14 cd14 ct14 : Value}
    {f15 : Addr} {od15 an15 : Option Addr} {sl15 : Array (Option Value)} {oc15 kV15 dc15 pm15 cd15 ct15 : Value}
    {f16 : Addr} {od16 an16 : Option Addr} {sl16 : Array (Option Value)} {oc16 kV16 dc16 pm16 cd16 ct16 : Value}
    {f17 : Addr} {od17 an17 : Option Addr} {sl17 : Array (Option Value)} {oc17 kV17 dc17 pm17 cd17 ct17 : Value}
    {f18 : Addr} {od18 an18 : Option Addr} {sl18 : Array (Option Value)} {oc18 kV18 dc18 pm18 cd18 ct18 : Value}
    {f19 : Addr} {od19 an19 : Option Addr} {sl19 : Array (Option Value)} {oc19 kV19 dc19 pm19 cd19 ct19 : Value}
    {f20 : Addr} {od20 an20 : Option Addr} {sl20 : Array (Option Value)} {oc20 kV20 dc20 pm20 cd20 ct20 : Value}
    (a1 : PySem.W.nsIn K mainGlobals "is_whole" = some (some (.ref f1)))
    (l1 : K.lookup f1 = some ⟨oc1, od1, .func (PySem.W.fnOf "is_whole" "is_whole" (defArgs a_is_whole) (defBody a_is_whole) (defScope a_is_whole) .none kV1 dc1 pm1 an1 cd1 ct1), sl1⟩)
    (c1 : PySem.W.codeIn K cd1 "is_whole" = true) (k1 : PySem.W.keepIn K (.ref f1) = true)
    (a2 : PySem.W.nsIn K mainGlobals "is_count" = some (some (.ref f2)))
    (l2 : K.lookup f2 = some ⟨oc2, od2, .func (PySem.W.fnOf "is_count" "is_count" (defArgs a_is_count) (defBody a_is_count) (defScope a_is_count) .none kV2 dc2 pm2 an2 cd2 ct2), sl2⟩)
    (c2 : PySem.W.codeIn K cd2 "is_count" = true) (k2 : PySem.W.keepIn K (.ref f2) = true)
    (a3 : PySem.W.nsIn K mainGlobals "is_wish" = some (some (.ref f3)))
    (l3 : K.lookup f3 = some ⟨oc3, od3, .func (PySem.W.fnOf "is_wish" "is_wish" (defArgs a_is_wish) (defBody a_is_wish) (defScope a_is_wish) .none kV3 dc3 pm3 an3 cd3 ct3), sl3⟩)
    (c3 : PySem.W.codeIn K cd3 "is_wish" = true) (k3 : PySem.W.keepIn K (.ref f3) = true)
    (a4 : PySem.W.nsIn K mainGlobals "is_letter" = some (some (.ref f4)))
    (l4 : K.lookup f4 = some ⟨oc4, od4, .func (PySem.W.fnOf "is_letter" "is_letter" (defArgs a_is_letter) (defBody a_is_letter) (defScope a_is_letter) .none kV4 dc4 pm4 an4 cd4 ct4), sl4⟩)
    (c4 : PySem.W.codeIn K cd4 "is_letter" = true) (k4 : PySem.W.keepIn K (.ref f4) = true)
    (a5 : PySem.W.nsIn K mainGlobals "wish_number" = some (some (.ref f5)))
    (l5 : K.lookup f5 = some ⟨oc5, od5, .func (PySem.W.fnOf "wish_number" "wish_number" (defArgs a_wish_number) (defBody a_wish_number) (defScope a_wish_number) .none kV5 dc5 pm5 an5 cd5 ct5), sl5⟩)
    (c5 : PySem.W.codeIn K cd5 "wish_number" = true) (k5 : PySem.W.keepIn K (.ref f5) = true)
    (a6 : PySem.W.nsIn K mainGlobals "is_shared" = some (some (.ref f6)))
    (l6 : K.lookup f6 = some ⟨oc6, od6, .func (PySem.W.fnOf "is_shared" "is_shared" (defArgs a_is_shared) (defBody a_is_shared) (defScope a_is_shared) .none kV6 dc6 pm6 an6 cd6 ct6), sl6⟩)
    (c6 : PySem.W.codeIn K cd6 "is_shared" = true) (k6 : PySem.W.keepIn K (.ref f6) = true)
    (a7 : PySem.W.nsIn K mainGlobals "own_side" = some (some (.ref f7)))
    (l7 : K.lookup f7 = some ⟨oc7, od7, .func (PySem.W.fnOf "own_side" "own_side" (defArgs a_own_side) (defBody a_own_side) (defScope a_own_side) .none kV7 dc7 pm7 an7 cd7 ct7), sl7⟩)
    (c7 : PySem.W.codeIn K cd7 "own_side" = true) (k7 : PySem.W.keepIn K (.ref f7) = true)
    (a8 : PySem.W.nsIn K mainGlobals "other_thing" = some (some (.ref f8)))
    (l8 : K.lookup f8 = some ⟨oc8, od8, .func (PySem.W.fnOf "other_thing" "other_thing" (defArgs a_other_thing) (defBody a_other_thing) (defScope a_other_thing) .none kV8 dc8 pm8 an8 cd8 ct8), sl8⟩)
    (c8 : PySem.W.codeIn K cd8 "other_thing" = true) (k8 : PySem.W.keepIn K (.ref f8) = true)
    (a9 : PySem.W.nsIn K mainGlobals "out_span" = some (some (.ref f9)))
    (l9 : K.lookup f9 = some ⟨oc9, od9, .func (PySem.W.fnOf "out_span" "out_span" (defArgs a_out_span) (defBody a_out_span) (defScope a_out_span) .none kV9 dc9 pm9 an9 cd9 ct9), sl9⟩)
    (c9 : PySem.W.codeIn K cd9 "out_span" = true) (k9 : PySem.W.keepIn K (.ref f9) = true)
    (a10 : PySem.W.nsIn K mainGlobals "is_out_at" = some (some (.ref f10)))
    (l10 : K.lookup f10 = some ⟨oc10, od10, .func (PySem.W.fnOf "is_out_at" "is_out_at" (defArgs a_is_out_at) (defBody a_is_out_at) (defScope a_is_out_at) .none kV10 dc10 pm10 an10 cd10 ct10), sl10⟩)
    (c10 : PySem.W.codeIn K cd10 "is_out_at" = true) (k10 : PySem.W.keepIn K (.ref f10) = true)
    (a11 : PySem.W.nsIn K mainGlobals "_law_pot" = some (some (.ref f11)))
    (l11 : K.lookup f11 = some ⟨oc11, od11, .func (PySem.W.fnOf "_law_pot" "_law_pot" (defArgs sPot) (defBody sPot) (defScope sPot) .none kV11 dc11 pm11 an11 cd11 ct11), sl11⟩)
    (c11 : PySem.W.codeIn K cd11 "_law_pot" = true) (k11 : PySem.W.keepIn K (.ref f11) = true)
    (a12 : PySem.W.nsIn K mainGlobals "_law_take" = some (some (.ref f12)))
    (l12 : K.lookup f12 = some ⟨oc12, od12, .func (PySem.W.fnOf "_law_take" "_law_take" (defArgs sTake) (defBody sTake) (defScope sTake) .none kV12 dc12 pm12 an12 cd12 ct12), sl12⟩)
    (c12 : PySem.W.codeIn K cd12 "_law_take" = true) (k12 : PySem.W.keepIn K (.ref f12) = true)
    (a13 : PySem.W.nsIn K mainGlobals "_law_two" = some (some (.ref f13)))
    (l13 : K.lookup f13 = some ⟨oc13, od13, .func (PySem.W.fnOf "_law_two" "_law_two" (defArgs a__law_two) (defBody a__law_two) (defScope a__law_two) .none kV13 dc13 pm13 an13 cd13 ct13), sl13⟩)
    (c13 : PySem.W.codeIn K cd13 "_law_two" = true) (k13 : PySem.W.keepIn K (.ref f13) = true)
    (a14 : PySem.W.nsIn K mainGlobals "_law_lost_leave" = some (some (.ref f14)))
    (l14 : K.lookup f14 = some ⟨oc14, od14, .func (PySem.W.fnOf "_law_lost_leave" "_law_lost_leave" (defArgs a__law_lost_leave) (defBody a__law_lost_leave) (defScope a__law_lost_leave) .none kV14 dc14 pm14 an14 cd14 ct14), sl14⟩)
    (c14 : PySem.W.codeIn K cd14 "_law_lost_leave" = true) (k14 : PySem.W.keepIn K (.ref f14) = true)
    (a15 : PySem.W.nsIn K mainGlobals "_law_late_double" = some (some (.ref f15)))
    (l15 : K.lookup f15 = some ⟨oc15, od15, .func (PySem.W.fnOf "_law_late_double" "_law_late_double" (defArgs a__law_late_double) (defBody a__law_late_double) (defScope a__law_late_double) .none kV15 dc15 pm15 an15 cd15 ct15), sl15⟩)
    (c15 : PySem.W.codeIn K cd15 "_law_late_double" = true) (k15 : PySem.W.keepIn K (.ref f15) = true)
    (a16 : PySem.W.nsIn K mainGlobals "_law_elder_ask" = some (some (.ref f16)))
    (l16 : K.lookup f16 = some ⟨oc16, od16, .func (PySem.W.fnOf "_law_elder_ask" "_law_elder_ask" (defArgs a__law_elder_ask) (defBody a__law_elder_ask) (defScope a__law_elder_ask) .none kV16 dc16 pm16 an16 cd16 ct16), sl16⟩)
    (c16 : PySem.W.codeIn K cd16 "_law_elder_ask" = true) (k16 : PySem.W.keepIn K (.ref f16) = true)
    (a17 : PySem.W.nsIn K mainGlobals "_law_asked_while_out" = some (some (.ref f17)))
    (l17 : K.lookup f17 = some ⟨oc17, od17, .func (PySem.W.fnOf "_law_asked_while_out" "_law_asked_while_out" (defArgs a__law_asked_while_out) (defBody a__law_asked_while_out) (defScope a__law_asked_while_out) .none kV17 dc17 pm17 an17 cd17 ct17), sl17⟩)
    (c17 : PySem.W.codeIn K cd17 "_law_asked_while_out" = true) (k17 : PySem.W.keepIn K (.ref f17) = true)
    (a18 : PySem.W.nsIn K mainGlobals "_law_three" = some (some (.ref f18)))
    (l18 : K.lookup f18 = some ⟨oc18, od18, .func (PySem.W.fnOf "_law_three" "_law_three" (defArgs a__law_three) (defBody a__law_three) (defScope a__law_three) .none kV18 dc18 pm18 an18 cd18 ct18), sl18⟩)
    (c18 : PySem.W.codeIn K cd18 "_law_three" = true) (k18 : PySem.W.keepIn K (.ref f18) = true)
    (a19 : PySem.W.nsIn K mainGlobals "_law_put_and_dropped" = some (some (.ref f19)))
    (l19 : K.lookup f19 = some ⟨oc19, od19, .func (PySem.W.fnOf "_law_put_and_dropped" "_law_put_and_dropped" (defArgs a__law_put_and_dropped) (defBody a__law_put_and_dropped) (defScope a__law_put_and_dropped) .none kV19 dc19 pm19 an19 cd19 ct19), sl19⟩)
    (c19 : PySem.W.codeIn K cd19 "_law_put_and_dropped" = true) (k19 : PySem.W.keepIn K (.ref f19) = true)
    (a20 : PySem.W.nsIn K mainGlobals "law" = some (some (.ref f20)))
    (l20 : K.lookup f20 = some ⟨oc20, od20, .func (PySem.W.fnOf "law" "law" (defArgs a_law) (defBody a_law) (defScope a_law) .none kV20 dc20 pm20 an20 cd20 ct20), sl20⟩)
    (c20 : PySem.W.codeIn K cd20 "law" = true) (k20 : PySem.W.keepIn K (.ref f20) = true)
    {tk1 : Tok} (v1 : PySem.W.nsIn K mainGlobals "MOST_THINGS" = some (some (.int 12 tk1)))
    {C_Hand : Addr} (aC_Hand : PySem.W.nsIn K mainGlobals "Hand" = some (some (.ref C_Hand))) (pg_Hand : PySem.W.plainGet K C_Hand Str.empty = true) (hd_Hand : PySem.W.hasDictIn K C_Hand = true) (po_Hand : PySem.W.plainOver K C_Hand = true) (sa_Hand : PySem.W.findIn K (.ref C_Hand) "__setattr__" = some (some (.builtin "object.__setattr__"))) (mk_Hand : PySem.W.makesIn K C_Hand = true) (kc_Hand : PySem.W.keepIn K (.ref C_Hand) = true)
    (n_Hand_thing : PySem.W.findIn K (.ref C_Hand) "thing" = some none)
    (n_Hand_place : PySem.W.findIn K (.ref C_Hand) "place" = some none)
    (n_Hand_wish : PySem.W.findIn K (.ref C_Hand) "wish" = some none)
    (n_Hand_held : PySem.W.findIn K (.ref C_Hand) "held" = some none)
    (n_Hand_tally : PySem.W.findIn K (.ref C_Hand) "tally" = some none)
    {f_Hand___init__ : Addr} {od_Hand___init__ an_Hand___init__ : Option Addr} {sl_Hand___init__ : Array (Option Value)} {oc_Hand___init__ kV_Hand___init__ dc_Hand___init__ pm_Hand___init__ cd_Hand___init__ ct_Hand___init__ : Value}
    (a_Hand___init___ : PySem.W.findIn K (.ref C_Hand) "__init__" = some (some (.ref f_Hand___init__))) (i_Hand___init__ : PySem.W.isFn K (.ref f_Hand___init__) = true)
    (l_Hand___init__ : K.lookup f_Hand___init__ = some ⟨oc_Hand___init__, od_Hand___init__, .func (PySem.W.fnOf "__init__" "Hand.__init__" (defArgs a_Hand___init__) (defBody a_Hand___init__) (defScope a_Hand___init__) .none kV_Hand___init__ dc_Hand___init__ pm_Hand___init__ an_Hand___init__ cd_Hand___init__ ct_Hand___init__), sl_Hand___init__⟩) (c_Hand___init__ : PySem.W.codeIn K cd_Hand___init__ "Hand.__init__" = true) (k_Hand___init__ : PySem.W.keepIn K (.ref f_Hand___init__) = true)
    {f_Hand_shares : Addr} {od_Hand_shares an_Hand_shares : Option Addr} {sl_Hand_shares : Array (Option Value)} {oc_Hand_shares kV_Hand_shares dc_Hand_shares pm_Hand_shares cd_Hand_shares ct_Hand_shares : Value}
    (a_Hand_shares_ : PySem.W.findIn K (.ref C_Hand) "shares" = some (some (.ref f_Hand_shares))) (i_Hand_shares : PySem.W.isFn K (.ref f_Hand_shares) = true)
    (l_Hand_shares : K.lookup f_Hand_shares = some ⟨oc_Hand_shares, od_Hand_shares, .func (PySem.W.fnOf "shares" "Hand.shares" (defArgs a_Hand_shares) (defBody a_Hand_shares) (defScope a_Hand_shares) .none kV_Hand_shares dc_Hand_shares pm_Hand_shares an_Hand_shares cd_Hand_shares ct_Hand_shares), sl_Hand_shares⟩) (c_Hand_shares : PySem.W.codeIn K cd_Hand_shares "Hand.shares" = true) (k_Hand_shares : PySem.W.keepIn K (.ref f_Hand_shares) = true)
    {f_Hand_shared : Addr} {od_Hand_shared an_Hand_shared : Option Addr} {sl_Hand_shared : Array (Option Value)} {oc_Hand_shared kV_Hand_shared dc_Hand_shared pm_Hand_shared cd_Hand_shared ct_Hand_shared : Value}
    (a_Hand_shared_ : PySem.W.findIn K (.ref C_Hand) "shared" = some (some (.ref f_Hand_shared))) (i_Hand_shared : PySem.W.isFn K (.ref f_Hand_shared) = true)
    (l_Hand_shared : K.lookup f_Hand_shared = some ⟨oc_Hand_shared, od_Hand_shared, .func (PySem.W.fnOf "shared" "Hand.shared" (defArgs a_Hand_shared) (defBody a_Hand_shared) (defScope a_Hand_shared) .none kV_Hand_shared dc_Hand_shared pm_Hand_shared an_Hand_shared cd_Hand_shared ct_Hand_shared), sl_Hand_shared⟩) (c_Hand_shared : PySem.W.codeIn K cd_Hand_shared "Hand.shared" = true) (k_Hand_shared : PySem.W.keepIn K (.ref f_Hand_shared) = true)
    {f_Hand_count_of : Addr} {od_Hand_count_of an_Hand_count_of : Option Addr} {sl_Hand_count_of : Array (Option Value)} {oc_Hand_count_of kV_Hand_count_of dc_Hand_count_of pm_Hand_count_of cd_Hand_count_of ct_Hand_count_of : Value}
    (a_Hand_count_of_ : PySem.W.findIn K (.ref C_Hand) "count_of" = some (some (.ref f_Hand_count_of))) (i_Hand_count_of : PySem.W.isFn K (.ref f_Hand_count_of) = true)
    (l_Hand_count_of : K.lookup f_Hand_count_of = some ⟨oc_Hand_count_of, od_Hand_count_of, .func (PySem.W.fnOf "count_of" "Hand.count_of" (defArgs a_Hand_count_of) (defBody a_Hand_count_of) (defScope a_Hand_count_of) .none kV_Hand_count_of dc_Hand_count_of pm_Hand_count_of an_Hand_count_of cd_Hand_count_of ct_Hand_count_of), sl_Hand_count_of⟩) (c_Hand_count_of : PySem.W.codeIn K cd_Hand_count_of "Hand.count_of" = true) (k_Hand_count_of : PySem.W.keepIn K (.ref f_Hand_count_of) = true)
    {f_Hand_has_leave : Addr} {od_Hand_has_leave an_Hand_has_leave : Option Addr} {sl_Hand_has_leave : Array (Option Value)} {oc_Hand_has_leave kV_Hand_has_leave dc_Hand_has_leave pm_Hand_has_leave cd_Hand_has_leave ct_Hand_has_leave : Value}
    (a_Hand_has_leave_ : PySem.W.findIn K (.ref C_Hand) "has_leave" = some (some (.ref f_Hand_has_leave))) (i_Hand_has_leave : PySem.W.isFn K (.ref f_Hand_has_leave) = true)
    (l_Hand_has_leave : K.lookup f_Hand_has_leave = some ⟨oc_Hand_has_leave, od_Hand_has_leave, .func (PySem.W.fnOf "has_leave" "Hand.has_leave" (defArgs a_Hand_has_leave) (defBody a_Hand_has_leave) (defScope a_Hand_has_leave) .none kV_Hand_has_leave dc_Hand_has_leave pm_Hand_has_leave an_Hand_has_leave cd_Hand_has_leave ct_Hand_has_leave), sl_Hand_has_leave⟩) (c_Hand_has_leave : PySem.W.codeIn K cd_Hand_has_leave "Hand.has_leave" = true) (k_Hand_has_leave : PySem.W.keepIn K (.ref f_Hand_has_leave) = true)
    {f_Hand_shut_span : Addr} {od_Hand_shut_span an_Hand_shut_span : Option Addr} {sl_Hand_shut_span : Array (Option Value)} {oc_Hand_shut_span kV_Hand_shut_span dc_Hand_shut_span pm_Hand_shut_span cd_Hand_shut_span ct_Hand_shut_span : Value}
    (a_Hand_shut_span_ : PySem.W.findIn K (.ref C_Hand) "shut_span" = some (some (.ref f_Hand_shut_span))) (i_Hand_shut_span : PySem.W.isFn K (.ref f_Hand_shut_span) = true)
    (l_Hand_shut_span : K.lookup f_Hand_shut_span = some ⟨oc_Hand_shut_span, od_Hand_shut_span, .func (PySem.W.fnOf "shut_span" "Hand.shut_span" (defArgs a_Hand_shut_span) (defBody a_Hand_shut_span) (defScope a_Hand_shut_span) .none kV_Hand_shut_span dc_Hand_shut_span pm_Hand_shut_span an_Hand_shut_span cd_Hand_shut_span ct_Hand_shut_span), sl_Hand_shut_span⟩) (c_Hand_shut_span : PySem.W.codeIn K cd_Hand_shut_span "Hand.shut_span" = true) (k_Hand_shut_span : PySem.W.keepIn K (.ref f_Hand_shut_span) = true)
    {f_Hand_shut_spans : Addr} {od_Hand_shut_spans an_Hand_shut_spans : Option Addr} {sl_Hand_shut_spans : Array (Option Value)} {oc_Hand_shut_spans kV_Hand_shut_spans dc_Hand_shut_spans pm_Hand_shut_spans cd_Hand_shut_spans ct_Hand_shut_spans : Value}
    (a_Hand_shut_spans_ : PySem.W.findIn K (.ref C_Hand) "shut_spans" = some (some (.ref f_Hand_shut_spans))) (i_Hand_shut_spans : PySem.W.isFn K (.ref f_Hand_shut_spans) = true)
    (l_Hand_shut_spans : K.lookup f_Hand_shut_spans = some ⟨oc_Hand_shut_spans, od_Hand_shut_spans, .func (PySem.W.fnOf "shut_spans" "Hand.shut_spans" (defArgs a_Hand_shut_spans) (defBody a_Hand_shut_spans) (defScope a_Hand_shut_spans) .none kV_Hand_shut_spans dc_Hand_shut_spans pm_Hand_shut_spans an_Hand_shut_spans cd_Hand_shut_spans ct_Hand_shut_spans), sl_Hand_shut_spans⟩) (c_Hand_shut_spans : PySem.W.codeIn K cd_Hand_shut_spans "Hand.shut_spans" = true) (k_Hand_shut_spans : PySem.W.keepIn K (.ref f_Hand_shut_spans) = true)
    {f_Hand_wished_place : Addr} {od_Hand_wished_place an_Hand_wished_place : Option Addr} {sl_Hand_wished_place : Array (Option Value)} {oc_Hand_wished_place kV_Hand_wished_place dc_Hand_wished_place pm_Hand_wished_place cd_Hand_wished_place ct_Hand_wished_place : Value}
    (a_Hand_wished_place_ : PySem.W.findIn K (.ref C_Hand) "wished_place" = some (some (.ref f_Hand_wished_place))) (i_Hand_wished_place : PySem.W.isFn K (.ref f_Hand_wished_place) = true)
    (l_Hand_wished_place : K.lookup f_Hand_wished_place = some ⟨oc_Hand_wished_place, od_Hand_wished_place, .func (PySem.W.fnOf "wished_place" "Hand.wished_place" (defArgs a_Hand_wished_place) (defBody a_Hand_wished_place) (defScope a_Hand_wished_place) .none kV_Hand_wished_place dc_Hand_wished_place pm_Hand_wished_place an_Hand_wished_place cd_Hand_wished_place ct_Hand_wished_place), sl_Hand_wished_place⟩) (c_Hand_wished_place : PySem.W.codeIn K cd_Hand_wished_place "Hand.wished_place" = true) (k_Hand_wished_place : PySem.W.keepIn K (.ref f_Hand_wished_place) = true)
    {f_Hand_stride : Addr} {od_Hand_stride an_Hand_stride : Option Addr} {sl_Hand_stride : Array (Option Value)} {oc_Hand_stride kV_Hand_stride dc_Hand_stride pm_Hand_stride cd_Hand_stride ct_Hand_stride : Value}
    (a_Hand_stride_ : PySem.W.findIn K (.ref C_Hand) "stride" = some (some (.ref f_Hand_stride))) (i_Hand_stride : PySem.W.isFn K (.ref f_Hand_stride) = true)
    (l_Hand_stride : K.lookup f_Hand_stride = some ⟨oc_Hand_stride, od_Hand_stride, .func (PySem.W.fnOf "stride" "Hand.stride" (defArgs a_Hand_stride) (defBody a_Hand_stride) (defScope a_Hand_stride) .none kV_Hand_stride dc_Hand_stride pm_Hand_stride an_Hand_stride cd_Hand_stride ct_Hand_stride), sl_Hand_stride⟩) (c_Hand_stride : PySem.W.codeIn K cd_Hand_stride "Hand.stride" = true) (k_Hand_stride : PySem.W.keepIn K (.ref f_Hand_stride) = true)
    {f_Hand_lacks : Addr} {od_Hand_lacks an_Hand_lacks : Option Addr} {sl_Hand_lacks : Array (Option Value)} {oc_Hand_lacks kV_Hand_lacks dc_Hand_lacks pm_Hand_lacks cd_Hand_lacks ct_Hand_lacks : Value}
    (a_Hand_lacks_ : PySem.W.findIn K (.ref C_Hand) "lacks" = some (some (.ref f_Hand_lacks))) (i_Hand_lacks : PySem.W.isFn K (.ref f_Hand_lacks) = true)
    (l_Hand_lacks : K.lookup f_Hand_lacks = some ⟨oc_Hand_lacks, od_Hand_lacks, .func (PySem.W.fnOf "lacks" "Hand.lacks" (defArgs a_Hand_lacks) (defBody a_Hand_lacks) (defScope a_Hand_lacks) .none kV_Hand_lacks dc_Hand_lacks pm_Hand_lacks an_Hand_lacks cd_Hand_lacks ct_Hand_lacks), sl_Hand_lacks⟩) (c_Hand_lacks : PySem.W.codeIn K cd_Hand_lacks "Hand.lacks" = true) (k_Hand_lacks : PySem.W.keepIn K (.ref f_Hand_lacks) = true)
    {f_Hand_beat : Addr} {od_Hand_beat an_Hand_beat : Option Addr} {sl_Hand_beat : Array (Option Value)} {oc_Hand_beat kV_Hand_beat dc_Hand_beat pm_Hand_beat cd_Hand_beat ct_Hand_beat : Value}
    (a_Hand_beat_ : PySem.W.findIn K (.ref C_Hand) "beat" = some (some (.ref f_Hand_beat))) (i_Hand_beat : PySem.W.isFn K (.ref f_Hand_beat) = true)
    (l_Hand_beat : K.lookup f_Hand_beat = some ⟨oc_Hand_beat, od_Hand_beat, .func (PySem.W.fnOf "beat" "Hand.beat" (defArgs a_Hand_beat) (defBody a_Hand_beat) (defScope a_Hand_beat) .none kV_Hand_beat dc_Hand_beat pm_Hand_beat an_Hand_beat cd_Hand_beat ct_Hand_beat), sl_Hand_beat⟩) (c_Hand_beat : PySem.W.codeIn K cd_Hand_beat "Hand.beat" = true) (k_Hand_beat : PySem.W.keepIn K (.ref f_Hand_beat) = true)
    {f_Hand_hear : Addr} {od_Hand_hear an_Hand_hear : Option Addr} {sl_Hand_hear : Array (Option Value)} {oc_Hand_hear kV_Hand_hear dc_Hand_hear pm_Hand_hear cd_Hand_hear ct_Hand_hear : Value}
    (a_Hand_hear_ : PySem.W.findIn K (.ref C_Hand) "hear" = some (some (.ref f_Hand_hear))) (i_Hand_hear : PySem.W.isFn K (.ref f_Hand_hear) = true)
    (l_Hand_hear : K.lookup f_Hand_hear = some ⟨oc_Hand_hear, od_Hand_hear, .func (PySem.W.fnOf "hear" "Hand.hear" (defArgs a_Hand_hear) (defBody a_Hand_hear) (defScope a_Hand_hear) .none kV_Hand_hear dc_Hand_hear pm_Hand_hear an_Hand_hear cd_Hand_hear ct_Hand_hear), sl_Hand_hear⟩) (c_Hand_hear : PySem.W.codeIn K cd_Hand_hear "Hand.hear" = true) (k_Hand_hear : PySem.W.keepIn K (.ref f_Hand_hear) = true)
    {f_Hand_has_place : Addr} {od_Hand_has_place an_Hand_has_place : Option Addr} {sl_Hand_has_place : Array (Option Value)} {oc_Hand_has_place kV_Hand_has_place dc_Hand_has_place pm_Hand_has_place cd_Hand_has_place ct_Hand_has_place : Value}
    (a_Hand_has_place_ : PySem.W.findIn K (.ref C_Hand) "has_place" = some (some (.ref f_Hand_has_place))) (i_Hand_has_place : PySem.W.isFn K (.ref f_Hand_has_place) = true)
    (l_Hand_has_place : K.lookup f_Hand_has_place = some ⟨oc_Hand_has_place, od_Hand_has_place, .func (PySem.W.fnOf "has_place" "Hand.has_place" (defArgs a_Hand_has_place) (defBody a_Hand_has_place) (defScope a_Hand_has_place) .none kV_Hand_has_place dc_Hand_has_place pm_Hand_has_place an_Hand_has_place cd_Hand_has_place ct_Hand_has_place), sl_Hand_has_place⟩) (c_Hand_has_place : PySem.W.codeIn K cd_Hand_has_place "Hand.has_place" = true) (k_Hand_has_place : PySem.W.keepIn K (.ref f_Hand_has_place) = true)
    {f_Hand_answers : Addr} {od_Hand_answers an_Hand_answers : Option Addr} {sl_Hand_answers : Array (Option Value)} {oc_Hand_answers kV_Hand_answers dc_Hand_answers pm_Hand_answers cd_Hand_answers ct_Hand_answers : Value}
    (a_Hand_answers_ : PySem.W.findIn K (.ref C_Hand) "answers" = some (some (.ref f_Hand_answers))) (i_Hand_answers : PySem.W.isFn K (.ref f_Hand_answers) = true)
    (l_Hand_answers : K.lookup f_Hand_answers = some ⟨oc_Hand_answers, od_Hand_answers, .func (PySem.W.fnOf "answers" "Hand.answers" (defArgs a_Hand_answers) (defBody a_Hand_answers) (defScope a_Hand_answers) .none kV_Hand_answers dc_Hand_answers pm_Hand_answers an_Hand_answers cd_Hand_answers ct_Hand_answers), sl_Hand_answers⟩) (c_Hand_answers : PySem.W.codeIn K cd_Hand_answers "Hand.answers" = true) (k_Hand_answers : PySem.W.keepIn K (.ref f_Hand_answers) = true)
    {f_Hand_put : Addr} {od_Hand_put an_Hand_put : Option Addr} {sl_Hand_put : Array (Option Value)} {oc_Hand_put kV_Hand_put dc_Hand_put pm_Hand_put cd_Hand_put ct_Hand_put : Value}
    (a_Hand_put_ : PySem.W.findIn K (.ref C_Hand) "put" = some (some (.ref f_Hand_put))) (i_Hand_put : PySem.W.isFn K (.ref f_Hand_put) = true)
    (l_Hand_put : K.lookup f_Hand_put = some ⟨oc_Hand_put, od_Hand_put, .func (PySem.W.fnOf "put" "Hand.put" (defArgs a_Hand_put) (defBody a_Hand_put) (defScope a_Hand_put) .none kV_Hand_put dc_Hand_put pm_Hand_put an_Hand_put cd_Hand_put ct_Hand_put), sl_Hand_put⟩) (c_Hand_put : PySem.W.codeIn K cd_Hand_put "Hand.put" = true) (k_Hand_put : PySem.W.keepIn K (.ref f_Hand_put) = true)
    {f_Hand_drop : Addr} {od_Hand_drop an_Hand_drop : Option Addr} {sl_Hand_drop : Array (Option Value)} {oc_Hand_drop kV_Hand_drop dc_Hand_drop pm_Hand_drop cd_Hand_drop ct_Hand_drop : Value}
    (a_Hand_drop_ : PySem.W.findIn K (.ref C_Hand) "drop" = some (some (.ref f_Hand_drop))) (i_Hand_drop : PySem.W.isFn K (.ref f_Hand_drop) = true)
    (l_Hand_drop : K.lookup f_Hand_drop = some ⟨oc_Hand_drop, od_Hand_drop, .func (PySem.W.fnOf "drop" "Hand.drop" (defArgs a_Hand_drop) (defBody a_Hand_drop) (defScope a_Hand_drop) .none kV_Hand_drop dc_Hand_drop pm_Hand_drop an_Hand_drop cd_Hand_drop ct_Hand_drop), sl_Hand_drop⟩) (c_Hand_drop : PySem.W.codeIn K cd_Hand_drop "Hand.drop" = true) (k_Hand_drop : PySem.W.keepIn K (.ref f_Hand_drop) = true)
    (z1 : PySem.W.nsIn K mainGlobals "abs" = some none)
    (z2 : PySem.W.nsIn K mainGlobals "all" = some none)
    (z3 : PySem.W.nsIn K mainGlobals "bool" = some none)
    (z4 : PySem.W.nsIn K mainGlobals "int" = some none)
    (z5 : PySem.W.nsIn K mainGlobals "isinstance" = some none)
    (z6 : PySem.W.nsIn K mainGlobals "len" = some none)
    (z7 : PySem.W.nsIn K mainGlobals "max" = some none)
    (z8 : PySem.W.nsIn K mainGlobals "min" = some none)
    (z9 : PySem.W.nsIn K mainGlobals "range" = some none)
    (z10 : PySem.W.nsIn K mainGlobals "set" = some none)
    (z11 : PySem.W.nsIn K mainGlobals "sorted" = some none)
    (z12 : PySem.W.nsIn K mainGlobals "str" = some none)
    (z13 : PySem.W.nsIn K mainGlobals "tuple" = some none)
    : ∃ fd : FuncData, (∀ (s : Shared) (v : Value), BindsTo s fd ⟨[v], []⟩ [("_law_script", v)]) ∧ ∀ base : Heap, K.In base → base.Ns mainGlobals mg → FnOk l.prog w K mg base CX0 10 fa fd ["_law_script"] (spLaw K) := by
  have e := hfa.symm.trans (PySem.W.mg_of X G a20)
  cases e
  have F1 := fun_mk (st := a_is_whole) l1 c1 k1
  have b1 := F1.binds (ps := ["thing"]) fun _ _ _ _ _ _ us hl => match us, hl with | [_], _ => rfl
  have g1 := PySem.W.mg_of X G a1
  have F2 := fun_mk (st := a_is_count) l2 c2 k2
  have b2 := F2.binds (ps := ["thing"]) fun _ _ _ _ _ _ us hl => match us, hl with | [_], _ => rfl
  have g2 := PySem.W.mg_of X G a2
  have F3 := fun_mk (st := a_is_wish) l3 c3 k3
  have b3 := F3.binds (ps := ["thing"]) fun _ _ _ _ _ _ us hl => match us, hl with | [_], _ => rfl
  have g3 := PySem.W.mg_of X G a3
  have F4 := fun_mk (st := a_is_letter) l4 c4 k4
  have b4 := F4.binds (ps := ["thing"]) fun _ _ _ _ _ _ us hl => match us, hl with | [_], _ => rfl
  have g4 := PySem.W.mg_of X G a4
  have F5 := fun_mk (st := a_wish_number) l5 c5 k5
  have b5 := F5.binds (ps := ["wish"]) fun _ _ _ _ _ _ us hl => match us, hl with | [_], _ => rfl
  have g5 := PySem.W.mg_of X G a5
  have F6 := fun_mk (st := a_is_shared) l6 c6 k6
  have b6 := F6.binds (ps := ["rule"]) fun _ _ _ _ _ _ us hl => match us, hl with | [_], _ => rfl
  have g6 := PySem.W.mg_of X G a6
  have F7 := fun_mk (st := a_own_side) l7 c7 k7
  have b7 := F7.binds (ps := ["rule", "thing"]) fun _ _ _ _ _ _ us hl => match us, hl with | [_, _], _ => rfl
  have g7 := PySem.W.mg_of X G a7
  have F8 := fun_mk (st := a_other_thing) l8 c8 k8
  have b8 := F8.binds (ps := ["rule", "thing"]) fun _ _ _ _ _ _ us hl => match us, hl with | [_, _], _ => rfl
  have g8 := PySem.W.mg_of X G a8
  have F9 := fun_mk (st := a_out_span) l9 c9 k9
  have b9 := F9.binds (ps := ["side", "low", "high"]) fun _ _ _ _ _ _ us hl => match us, hl with | [_, _, _], _ => rfl
  have g9 := PySem.W.mg_of X G a9
  have F10 := fun_mk (st := a_is_out_at) l10 c10 k10
  have b10 := F10.binds (ps := ["side", "place"]) fun _ _ _ _ _ _ us hl => match us, hl with | [_, _], _ => rfl
  have g10 := PySem.W.mg_of X G a10
  have F11 := fun_mk (st := sPot) l11 c11 k11
  have b11 := F11.binds (ps := ["_law_script", "_law_k"]) fun _ _ _ _ _ _ us hl => match us, hl with | [_, _], _ => rfl
  have g11 := PySem.W.mg_of X G a11
  have F12 := fun_mk (st := sTake) l12 c12 k12
  have b12 := F12.binds (ps := ["_law_pot_here", "_law_many"]) fun _ _ _ _ _ _ us hl => match us, hl with | [_, _], _ => rfl
  have g12 := PySem.W.mg_of X G a12
  have F13 := fun_mk (st := a__law_two) l13 c13 k13
  have b13 := F13.binds (ps := ["_law_place"]) fun _ _ _ _ _ _ us hl => match us, hl with | [_], _ => rfl
  have g13 := PySem.W.mg_of X G a13
  have F14 := fun_mk (st := a__law_lost_leave) l14 c14 k14
  have b14 := F14.binds (ps := ["_law_place", "_law_number"]) fun _ _ _ _ _ _ us hl => match us, hl with | [_, _], _ => rfl
  have g14 := PySem.W.mg_of X G a14
  have F15 := fun_mk (st := a__law_late_double) l15 c15 k15
  have b15 := F15.binds (ps := ["_law_place", "_law_number"]) fun _ _ _ _ _ _ us hl => match us, hl with | [_, _], _ => rfl
  have g15 := PySem.W.mg_of X G a15
  have F16 := fun_mk (st := a__law_elder_ask) l16 c16 k16
  have b16 := F16.binds (ps := ["_law_place", "_law_number"]) fun _ _ _ _ _ _ us hl => match us, hl with | [_, _], _ => rfl
  have g16 := PySem.W.mg_of X G a16
  have F17 := fun_mk (st := a__law_asked_while_out) l17 c17 k17
  have b17 := F17.binds (ps := ["_law_place", "_law_number"]) fun _ _ _ _ _ _ us hl => match us, hl with | [_, _], _ => rfl
  have g17 := PySem.W.mg_of X G a17
  have F18 := fun_mk (st := a__law_three) l18 c18 k18
  have b18 := F18.binds (ps := ["_law_place", "_law_number"]) fun _ _ _ _ _ _ us hl => match us, hl with | [_, _], _ => rfl
  have g18 := PySem.W.mg_of X G a18
  have F19 := fun_mk (st := a__law_put_and_dropped) l19 c19 k19
  have b19 := F19.binds (ps := ["_law_place", "_law_number"]) fun _ _ _ _ _ _ us hl => match us, hl with | [_, _], _ => rfl
  have g19 := PySem.W.mg_of X G a19
  have F20 := fun_mk (st := a_law) l20 c20 k20
  have m1 := PySem.W.mg_none_of X G z1
  have m2 := PySem.W.mg_none_of X G z2
  have m3 := PySem.W.mg_none_of X G z3
  have m4 := PySem.W.mg_none_of X G z4
  have m5 := PySem.W.mg_none_of X G z5
  have m6 := PySem.W.mg_none_of X G z6
  have m7 := PySem.W.mg_none_of X G z7
  have m8 := PySem.W.mg_none_of X G z8
  have m9 := PySem.W.mg_none_of X G z9
  have m10 := PySem.W.mg_none_of X G z10
  have m11 := PySem.W.mg_none_of X G z11
  have m12 := PySem.W.mg_none_of X G z12
  have m13 := PySem.W.mg_none_of X G z13
  have gv1 := PySem.W.mg_of X G v1
  have cl_Hand : Cls K C_Hand := ⟨pg_Hand, hd_Hand, po_Hand, sa_Hand⟩
  have HX : HandTxt K C_Hand := ⟨cl_Hand, n_Hand_thing, n_Hand_place, n_Hand_wish, n_Hand_held, n_Hand_tally⟩
  have mgC_Hand := PySem.W.mg_of X G aC_Hand
  have F_Hand___init__ := fun_mk (st := a_Hand___init__) l_Hand___init__ c_Hand___init__ k_Hand___init__
  have b_Hand___init__ := F_Hand___init__.binds (ps := ["self", "thing", "place", "rules"]) fun _ _ _ _ _ _ us hl => match us, hl with | [_, _, _, _], _ => rfl
  have MK_Hand : Mk K C_Hand f_Hand___init__ := ⟨mk_Hand, a_Hand___init___, i_Hand___init__, kc_Hand⟩
  have bI_Hand := b_Hand___init__
  have F_Hand_shares := fun_mk (st := a_Hand_shares) l_Hand_shares c_Hand_shares k_Hand_shares
  have b_Hand_shares := F_Hand_shares.binds (ps := ["self", "number"]) fun _ _ _ _ _ _ us hl => match us, hl with | [_, _], _ => rfl
  have F_Hand_shared := fun_mk (st := a_Hand_shared) l_Hand_shared c_Hand_shared k_Hand_shared
  have b_Hand_shared := F_Hand_shared.binds (ps := ["self"]) fun _ _ _ _ _ _ us hl => match us, hl with | [_], _ => rfl
  have F_Hand_count_of := fun_mk (st := a_Hand_count_of) l_Hand_count_of c_Hand_count_of k_Hand_count_of
  have b_Hand_count_of := F_Hand_count_of.binds (ps := ["self", "number"]) fun _ _ _ _ _ _ us hl => match us, hl with | [_, _], _ => rfl
  have F_Hand_has_leave := fun_mk (st := a_Hand_has_leave) l_Hand_has_leave c_Hand_has_leave k_Hand_has_leave
  have b_Hand_has_leave := F_Hand_has_leave.binds (ps := ["self", "number"]) fun _ _ _ _ _ _ us hl => match us, hl with | [_, _], _ => rfl
  have F_Hand_shut_span := fun_mk (st := a_Hand_shut_span) l_Hand_shut_span c_Hand_shut_span k_Hand_shut_span
  have b_Hand_shut_span := F_Hand_shut_span.binds (ps := ["self", "number", "low", "high"]) fun _ _ _ _ _ _ us hl => match us, hl with | [_, _, _, _], _ => rfl
  have F_Hand_shut_spans := fun_mk (st := a_Hand_shut_spans) l_Hand_shut_spans c_Hand_shut_spans k_Hand_shut_spans
  have b_Hand_shut_spans := F_Hand_shut_spans.binds (ps := ["self", "low", "high"]) fun _ _ _ _ _ _ us hl => match us, hl with | [_, _, _], _ => rfl
  have F_Hand_wished_place := fun_mk (st := a_Hand_wished_place) l_Hand_wished_place c_Hand_wished_place k_Hand_wished_place
  have b_Hand_wished_place := F_Hand_wished_place.binds (ps := ["self"]) fun _ _ _ _ _ _ us hl => match us, hl with | [_], _ => rfl
  have F_Hand_stride := fun_mk (st := a_Hand_stride) l_Hand_stride c_Hand_stride k_Hand_stride
  have b_Hand_stride := F_Hand_stride.binds (ps := ["self"]) fun _ _ _ _ _ _ us hl => match us, hl with | [_], _ => rfl
  have F_Hand_lacks := fun_mk (st := a_Hand_lacks) l_Hand_lacks c_Hand_lacks k_Hand_lacks
  have b_Hand_lacks := F_Hand_lacks.binds (ps := ["self"]) fun _ _ _ _ _ _ us hl => match us, hl with | [_], _ => rfl
  have F_Hand_beat := fun_mk (st := a_Hand_beat) l_Hand_beat c_Hand_beat k_Hand_beat
  have b_Hand_beat := F_Hand_beat.binds (ps := ["self"]) fun _ _ _ _ _ _ us hl => match us, hl with | [_], _ => rfl
  have F_Hand_hear := fun_mk (st := a_Hand_hear) l_Hand_hear c_Hand_hear k_Hand_hear
  have b_Hand_hear := F_Hand_hear.binds (ps := ["self", "letter"]) fun _ _ _ _ _ _ us hl => match us, hl with | [_, _], _ => rfl
  have F_Hand_has_place := fun_mk (st := a_Hand_has_place) l_Hand_has_place c_Hand_has_place k_Hand_has_place
  have b_Hand_has_place := F_Hand_has_place.binds (ps := ["self", "wish"]) fun _ _ _ _ _ _ us hl => match us, hl with | [_, _], _ => rfl
  have F_Hand_answers := fun_mk (st := a_Hand_answers) l_Hand_answers c_Hand_answers k_Hand_answers
  have b_Hand_answers := F_Hand_answers.binds (ps := ["self", "number", "count"]) fun _ _ _ _ _ _ us hl => match us, hl with | [_, _, _], _ => rfl
  have F_Hand_put := fun_mk (st := a_Hand_put) l_Hand_put c_Hand_put k_Hand_put
  have b_Hand_put := F_Hand_put.binds (ps := ["self", "number", "rule", "count"]) fun _ _ _ _ _ _ us hl => match us, hl with | [_, _, _, _], _ => rfl
  have F_Hand_drop := fun_mk (st := a_Hand_drop) l_Hand_drop c_Hand_drop k_Hand_drop
  have b_Hand_drop := F_Hand_drop.binds (ps := ["self", "number"]) fun _ _ _ _ _ _ us hl => match us, hl with | [_, _], _ => rfl
  refine ⟨PySem.W.fnOf "law" "law" (defArgs a_law) (defBody a_law) (defScope a_law) .none kV20 dc20 pm20 an20 cd20 ct20, fun s v => .of_eq rfl, fun base _ _ => ?_⟩
  have K_is_whole := Kn.mk (x := "is_whole") (base := base) (w := w) (P := l.prog) (ok_is_whole (k := 0) F1 m3 m4 m5) g1 F1.kp b1
  have K_is_count := Kn.mk (x := "is_count") (base := base) (w := w) (P := l.prog) (ok_is_count (k := 0) F2 K_is_whole) g2 F2.kp b2
  have K_is_wish := Kn.mk (x := "is_wish") (base := base) (w := w) (P := l.prog) (ok_is_wish (k := 0) F3 K_is_whole K_is_count gv1 m2 m5 m6 m13) g3 F3.kp b3
  have K_is_letter := Kn.mk (x := "is_letter") (base := base) (w := w) (P := l.prog) (ok_is_letter (k := 0) F4 K_is_count K_is_wish m5 m6 m12 m13) g4 F4.kp b4
  have K_wish_number := Kn.mk (x := "wish_number") (base := base) (w := w) (P := l.prog) (ok_wish_number (k := 0) F5 ) g5 F5.kp b5
  have K_is_shared := Kn.mk (x := "is_shared") (base := base) (w := w) (P := l.prog) (ok_is_shared (k := 0) F6 ) g6 F6.kp b6
  have K_own_side := Kn.mk (x := "own_side") (base := base) (w := w) (P := l.prog) (ok_own_side (k := 0) F7 ) g7 F7.kp b7
  have K_other_thing := Kn.mk (x := "other_thing") (base := base) (w := w) (P := l.prog) (ok_other_thing (k := 0) F8 ) g8 F8.kp b8
  have K_out_span := Kn.mk (x := "out_span") (base := base) (w := w) (P := l.prog) (ok_out_span (k := 0) F9 m7 m8) g9 F9.kp b9
  have K_is_out_at := Kn.mk (x := "is_out_at") (base := base) (w := w) (P := l.prog) (ok_is_out_at (k := 0) F10 K_out_span) g10 F10.kp b10
  have GI_Hand := ok_Hand___init__ (P := l.prog) (w := w) (mg := mg) (base := base) (k := 0) F_Hand___init__ HX
  have K__law_two := Kn.mk (x := "_law_two") (base := base) (w := w) (P := l.prog) (ok__law_two (k := 0) F13 HX MK_Hand GI_Hand bI_Hand mgC_Hand) g13 F13.kp b13
  have M_Hand_has_place : C8.Met l.prog w K mg base _ C_Hand "has_place" _ [] := ⟨_, _, _, [], cl_Hand, ⟨a_Hand_has_place_, i_Hand_has_place, k_Hand_has_place⟩, ok_Hand_has_place (k := 0) F_Hand_has_place HX m6, b_Hand_has_place, .nil⟩
  have M_Hand_shares : C8.Met l.prog w K mg base _ C_Hand "shares" _ [] := ⟨_, _, _, [], cl_Hand, ⟨a_Hand_shares_, i_Hand_shares, k_Hand_shares⟩, ok_Hand_shares (k := 0) F_Hand_shares K_is_whole K_is_shared HX, b_Hand_shares, .nil⟩
  have M_Hand_count_of : C8.Met l.prog w K mg base _ C_Hand "count_of" _ [] := ⟨_, _, _, [], cl_Hand, ⟨a_Hand_count_of_, i_Hand_count_of, k_Hand_count_of⟩, ok_Hand_count_of (k := 0) F_Hand_count_of M_Hand_shares HX, b_Hand_count_of, .nil⟩
  have M_Hand_has_leave : C8.Met l.prog w K mg base _ C_Hand "has_leave" _ [] := ⟨_, _, _, [], cl_Hand, ⟨a_Hand_has_leave_, i_Hand_has_leave, k_Hand_has_leave⟩, ok_Hand_has_leave (k := 0) F_Hand_has_leave M_Hand_count_of HX, b_Hand_has_leave, .nil⟩
  have M_Hand_answers : C8.Met l.prog w K mg base _ C_Hand "answers" _ [] := ⟨_, _, _, [], cl_Hand, ⟨a_Hand_answers_, i_Hand_answers, k_Hand_answers⟩, ok_Hand_answers (k := 0) F_Hand_answers M_Hand_has_leave K_own_side K_is_out_at K_other_thing HX, b_Hand_answers, .nil⟩
  have M_Hand_hear : C8.Met l.prog w K mg base _ C_Hand "hear" _ [] := ⟨_, _, _, [], cl_Hand, ⟨a_Hand_hear_, i_Hand_hear, k_Hand_hear⟩, ok_Hand_hear (k := 0) F_Hand_hear K_is_letter M_Hand_has_place K_wish_number M_Hand_shares M_Hand_answers HX m7, b_Hand_hear, .nil⟩
  have M_Hand_wished_place : C8.Met l.prog w K mg base _ C_Hand "wished_place" _ [] := ⟨_, _, _, [], cl_Hand, ⟨a_Hand_wished_place_, i_Hand_wished_place, k_Hand_wished_place⟩, ok_Hand_wished_place (k := 0) F_Hand_wished_place HX, b_Hand_wished_place, .nil⟩
  have M_Hand_shut_span : C8.Met l.prog w K mg base _ C_Hand "shut_span" _ [] := ⟨_, _, _, [], cl_Hand, ⟨a_Hand_shut_span_, i_Hand_shut_span, k_Hand_shut_span⟩, ok_Hand_shut_span (k := 0) F_Hand_shut_span K_is_shared K_out_span K_own_side M_Hand_has_leave HX, b_Hand_shut_span, .nil⟩
  have M_Hand_shut_spans : C8.Met l.prog w K mg base _ C_Hand "shut_spans" _ [] := ⟨_, _, _, [], cl_Hand, ⟨a_Hand_shut_spans_, i_Hand_shut_spans, k_Hand_shut_spans⟩, ok_Hand_shut_spans (k := 0) F_Hand_shut_spans M_Hand_shut_span HX, b_Hand_shut_spans, .nil⟩
  have M_Hand_stride : C8.Met l.prog w K mg base _ C_Hand "stride" _ [] := ⟨_, _, _, [], cl_Hand, ⟨a_Hand_stride_, i_Hand_stride, k_Hand_stride⟩, ok_Hand_stride (k := 0) F_Hand_stride M_Hand_wished_place M_Hand_shut_spans HX m1 m7 m8, b_Hand_stride, .nil⟩
  have M_Hand_shared : C8.Met l.prog w K mg base _ C_Hand "shared" _ [] := ⟨_, _, _, [], cl_Hand, ⟨a_Hand_shared_, i_Hand_shared, k_Hand_shared⟩, ok_Hand_shared (k := 0) F_Hand_shared K_is_shared HX m11, b_Hand_shared, .nil⟩
  have M_Hand_lacks : C8.Met l.prog w K mg base _ C_Hand "lacks" _ [] := ⟨_, _, _, [], cl_Hand, ⟨a_Hand_lacks_, i_Hand_lacks, k_Hand_lacks⟩, ok_Hand_lacks (k := 0) F_Hand_lacks M_Hand_shared M_Hand_has_leave M_Hand_wished_place K_own_side K_is_out_at HX m13, b_Hand_lacks, .nil⟩
  have M_Hand_beat : C8.Met l.prog w K mg base _ C_Hand "beat" _ [] := ⟨_, _, _, [], cl_Hand, ⟨a_Hand_beat_, i_Hand_beat, k_Hand_beat⟩, ok_Hand_beat (k := 0) F_Hand_beat M_Hand_lacks M_Hand_shared K_other_thing HX m10 m11 m13, b_Hand_beat, .nil⟩
  have K__law_lost_leave := Kn.mk (x := "_law_lost_leave") (base := base) (w := w) (P := l.prog) (ok__law_lost_leave (k := 0) F14 K__law_two M_Hand_hear M_Hand_stride M_Hand_count_of M_Hand_has_leave M_Hand_lacks M_Hand_beat HX) g14 F14.kp b14
  have K__law_late_double := Kn.mk (x := "_law_late_double") (base := base) (w := w) (P := l.prog) (ok__law_late_double (k := 0) F15 K__law_two M_Hand_hear M_Hand_stride M_Hand_count_of M_Hand_has_leave M_Hand_lacks M_Hand_beat HX) g15 F15.kp b15
  have K__law_elder_ask := Kn.mk (x := "_law_elder_ask") (base := base) (w := w) (P := l.prog) (ok__law_elder_ask (k := 0) F16 K__law_two M_Hand_hear M_Hand_stride M_Hand_count_of M_Hand_has_leave M_Hand_lacks M_Hand_beat HX) g16 F16.kp b16
  have K__law_asked_while_out := Kn.mk (x := "_law_asked_while_out") (base := base) (w := w) (P := l.prog) (ok__law_asked_while_out (k := 0) F17 K__law_two M_Hand_hear M_Hand_stride M_Hand_count_of M_Hand_has_leave M_Hand_lacks M_Hand_beat HX) g17 F17.kp b17
  have K__law_three := Kn.mk (x := "_law_three") (base := base) (w := w) (P := l.prog) (ok__law_three (k := 0) F18 K__law_two M_Hand_hear M_Hand_stride M_Hand_count_of M_Hand_has_leave M_Hand_lacks M_Hand_beat HX MK_Hand GI_Hand bI_Hand mgC_Hand) g18 F18.kp b18
  have M_Hand_put : C8.Met l.prog w K mg base _ C_Hand "put" _ [] := ⟨_, _, _, [], cl_Hand, ⟨a_Hand_put_, i_Hand_put, k_Hand_put⟩, ok_Hand_put (k := 0) F_Hand_put K_is_whole HX, b_Hand_put, .nil⟩
  have M_Hand_drop : C8.Met l.prog w K mg base _ C_Hand "drop" _ [] := ⟨_, _, _, [], cl_Hand, ⟨a_Hand_drop_, i_Hand_drop, k_Hand_drop⟩, ok_Hand_drop (k := 0) F_Hand_drop K_is_whole HX, b_Hand_drop, .nil⟩
  have K__law_put_and_dropped := Kn.mk (x := "_law_put_and_dropped") (base := base) (w := w) (P := l.prog) (ok__law_put_and_dropped (k := 0) F19 K__law_two M_Hand_hear M_Hand_stride M_Hand_count_of M_Hand_has_leave M_Hand_lacks M_Hand_beat M_Hand_put M_Hand_drop HX) g19 F19.kp b19
  have Kpot := Kn.mk (x := "_law_pot") (base := base) (w := w) (P := l.prog) (ok_pot (k := 0) F11 m6 m1 m4) g11 F11.kp b11
  have K__law_pot := Kpot
  have Ktake := Kn.mk (x := "_law_take") (base := base) (w := w) (P := l.prog) (ok_take (k := 0) F12) g12 F12.kp b12
  have K__law_take := Ktake
  exact ok_law (k := 0) F20 K__law_pot K__law_take K__law_lost_leave K__law_late_double K__law_elder_ask K__law_asked_while_out K__law_three K__law_put_and_dropped m6 m7 m8 m9
end K64
open PySem PySem.W PyProof.Rows
set_option maxHeartbeats 0 in
theorem PySem.Challenge.cw_notbothout_k64_whole_known_letters_holds : PySem.Challenge.rw_notbothout_k64_whole_known_letters.Holds := by
  w_on; o_law; k_head; (case hw => w_witness2)
  k_fill
  refine L2.walk_of (l := PySem.Challenge.rw_notbothout_k64_whole_known_letters) (n := 63) (k := 10) (x := "_law_script") (CX := fun _ => L2.CX0) (sp := fun w => K64.spLaw _) rfl (by decide) rfl ⟨rfl, by decide, by decide⟩ (fun w h Y => PySem.W.kIn_of Y) ?F (fun _ _ a ns hl _ hS => ⟨a, ns, rfl, hS, hl, fun _ => rfl⟩) (fun _ _ _ _ _ h => h)
  case F =>
    intro w mg fa h KX G hmg
    refine' K64.all_mk KX G hmg ?a1 ?l1 ?c1 ?k1 ?a2 ?l2 ?c2 ?k2 ?a3 ?l3 ?c3 ?k3 ?a4 ?l4 ?c4 ?k4 ?a5 ?l5 ?c5 ?k5 ?a6 ?l6 ?c6 ?k6 ?a7 ?l7 ?c7 ?k7 ?a8 ?l8 ?c8 ?k8 ?a9 ?l9 ?c9 ?k9 ?a10 ?l10 ?c10 ?k10 ?a11 ?l11 ?c11 ?k11 ?a12 ?l12 ?c12 ?k12 ?a13 ?l13 ?c13 ?k13 ?a14 ?l14 ?c14 ?k14 ?a15 ?l15 ?c15 ?k15 ?a16 ?l16 ?c16 ?k16 ?a17 ?l17 ?c17 ?k17 ?a18 ?l18 ?c18 ?k18 ?a19 ?l19 ?c19 ?k19 ?a20 ?l20 ?c20 ?k20 ?v1 ?aC_Hand ?pg_Hand ?hd_Hand ?po_Hand ?sa_Hand ?mk_Hand ?kc_Hand ?n_Hand_thing ?n_Hand_place ?n_Hand_wish ?n_Hand_held ?n_Hand_tally ?a_Hand___init___ ?i_Hand___init__ ?l_Hand___init__ ?c_Hand___init__ ?k_Hand___init__ ?a_Hand_shares_ ?i_Hand_shares ?l_Hand_shares ?c_Hand_shares ?k_Hand_shares ?a_Hand_shared_ ?i_Hand_shared ?l_Hand_shared ?c_Hand_shared ?k_Hand_shared ?a_Hand_count_of_ ?i_Hand_count_of ?l_Hand_count_of ?c_Hand_count_of ?k_Hand_count_of ?a_Hand_has_leave_ ?i_Hand_has_leave ?l_Hand_has_leave ?c_Hand_has_leave ?k_Hand_has_leave ?a_Hand_shut_span_ ?i_Hand_shut_span ?l_Hand_shut_span ?c_Hand_shut_span ?k_Hand_shut_span ?a_Hand_shut_spans_ ?i_Hand_shut_spans ?l_Hand_shut_spans ?c_Hand_shut_spans ?k_Hand_shut_spans ?a_Hand_wished_place_ ?i_Hand_wished_place ?l_Hand_wished_place ?c_Hand_wished_place ?k_Hand_wished_place ?a_Hand_stride_ ?i_Hand_stride ?l_Hand_stride ?c_Hand_stride ?k_Hand_stride ?a_Hand_lacks_ ?i_Hand_lacks ?l_Hand_lacks ?c_Hand_lacks ?k_Hand_lacks ?a_Hand_beat_ ?i_Hand_beat ?l_Hand_beat ?c_Hand_beat ?k_Hand_beat ?a_Hand_hear_ ?i_Hand_hear ?l_Hand_hear ?c_Hand_hear ?k_Hand_hear ?a_Hand_has_place_ ?i_Hand_has_place ?l_Hand_has_place ?c_Hand_has_place ?k_Hand_has_place ?a_Hand_answers_ ?i_Hand_answers ?l_Hand_answers ?c_Hand_answers ?k_Hand_answers ?a_Hand_put_ ?i_Hand_put ?l_Hand_put ?c_Hand_put ?k_Hand_put ?a_Hand_drop_ ?i_Hand_drop ?l_Hand_drop ?c_Hand_drop ?k_Hand_drop ?z1 ?z2 ?z3 ?z4 ?z5 ?z6 ?z7 ?z8 ?z9 ?z10 ?z11 ?z12 ?z13
    (case a1 => k_is)
    (case l1 => k_is)
    (case c1 => k_is)
    (case k1 => k_is)
    (case a2 => k_is)
    (case l2 => k_is)
    (case c2 => k_is)
    (case k2 => k_is)
    (case a3 => k_is)
    (case l3 => k_is)
    (case c3 => k_is)
    (case k3 => k_is)
    (case a4 => k_is)
    (case l4 => k_is)
    (case c4 => k_is)
    (case k4 => k_is)
    (case a5 => k_is)
    (case l5 => k_is)
    (case c5 => k_is)
    (case k5 => k_is)
    (case a6 => k_is)
    (case l6 => k_is)
    (case c6 => k_is)
    (case k6 => k_is)
    (case a7 => k_is)
    (case l7 => k_is)
    (case c7 => k_is)
    (case k7 => k_is)
    (case a8 => k_is)
    (case l8 => k_is)
    (case c8 => k_is)
    (case k8 => k_is)
    (case a9 => k_is)
    (case l9 => k_is)
    (case c9 => k_is)
    (case k9 => k_is)
    (case a10 => k_is)
    (case l10 => k_is)
    (case c10 => k_is)
    (case k10 => k_is)
    (case a11 => k_is)
    (case l11 => k_is)
    (case c11 => k_is)
    (case k11 => k_is)
    (case a12 => k_is)
    (case l12 => k_is)
    (case c12 => k_is)
    (case k12 => k_is)
    (case a13 => k_is)
    (case l13 => k_is)
    (case c13 => k_is)
    (case k13 => k_is)
    (case a14 => k_is)
    (case l14 => k_is)
    (case c14 => k_is)
    (case k14 => k_is)
    (case a15 => k_is)
    (case l15 => k_is)
    (case c15 => k_is)
    (case k15 => k_is)
    (case a16 => k_is)
    (case l16 => k_is)
    (case c16 => k_is)
    (case k16 => k_is)
    (case a17 => k_is)
    (case l17 => k_is)
    (case c17 => k_is)
    (case k17 => k_is)
    (case a18 => k_is)
    (case l18 => k_is)
    (case c18 => k_is)
    (case k18 => k_is)
    (case a19 => k_is)
    (case l19 => k_is)
    (case c19 => k_is)
    (case k19 => k_is)
    (case a20 => k_is)
    (case l20 => k_is)
    (case c20 => k_is)
    (case k20 => k_is)
    (case v1 => k_is)
    (case aC_Hand => k_is)
    (case pg_Hand => k_is)
    (case hd_Hand => k_is)
    (case po_Hand => k_is)
    (case sa_Hand => k_is)
    (case mk_Hand => k_is)
    (case kc_Hand => k_is)
    (case n_Hand_thing => k_is)
    (case n_Hand_place => k_is)
    (case n_Hand_wish => k_is)
    (case n_Hand_held => k_is)
    (case n_Hand_tally => k_is)
    (case a_Hand___init___ => k_is)
    (case i_Hand___init__ => k_is)
    (case l_Hand___init__ => k_is)
    (case c_Hand___init__ => k_is)
    (case k_Hand___init__ => k_is)
    (case a_Hand_shares_ => k_is)
    (case i_Hand_shares => k_is)
    (case l_Hand_shares => k_is)
    (case c_Hand_shares => k_is)
    (case k_Hand_shares => k_is)
    (case a_Hand_shared_ => k_is)
    (case i_Hand_shared => k_is)
    (case l_Hand_shared => k_is)
    (case c_Hand_shared => k_is)
    (case k_Hand_shared => k_is)
    (case a_Hand_count_of_ => k_is)
    (case i_Hand_count_of => k_is)
    (case l_Hand_count_of => k_is)
    (case c_Hand_count_of => k_is)
    (case k_Hand_count_of => k_is)
    (case a_Hand_has_leave_ => k_is)
    (case i_Hand_has_leave => k_is)
    (case l_Hand_has_leave => k_is)
    (case c_Hand_has_leave => k_is)
    (case k_Hand_has_leave => k_is)
    (case a_Hand_shut_span_ => k_is)
    (case i_Hand_shut_span => k_is)
    (case l_Hand_shut_span => k_is)
    (case c_Hand_shut_span => k_is)
    (case k_Hand_shut_span => k_is)
    (case a_Hand_shut_spans_ => k_is)
    (case i_Hand_shut_spans => k_is)
    (case l_Hand_shut_spans => k_is)
    (case c_Hand_shut_spans => k_is)
    (case k_Hand_shut_spans => k_is)
    (case a_Hand_wished_place_ => k_is)
    (case i_Hand_wished_place => k_is)
    (case l_Hand_wished_place => k_is)
    (case c_Hand_wished_place => k_is)
    (case k_Hand_wished_place => k_is)
    (case a_Hand_stride_ => k_is)
    (case i_Hand_stride => k_is)
    (case l_Hand_stride => k_is)
    (case c_Hand_stride => k_is)
    (case k_Hand_stride => k_is)
    (case a_Hand_lacks_ => k_is)
    (case i_Hand_lacks => k_is)
    (case l_Hand_lacks => k_is)
    (case c_Hand_lacks => k_is)
    (case k_Hand_lacks => k_is)
    (case a_Hand_beat_ => k_is)
    (case i_Hand_beat => k_is)
    (case l_Hand_beat => k_is)
    (case c_Hand_beat => k_is)
    (case k_Hand_beat => k_is)
    (case a_Hand_hear_ => k_is)
    (case i_Hand_hear => k_is)
    (case l_Hand_hear => k_is)
    (case c_Hand_hear => k_is)
    (case k_Hand_hear => k_is)
    (case a_Hand_has_place_ => k_is)
    (case i_Hand_has_place => k_is)
    (case l_Hand_has_place => k_is)
    (case c_Hand_has_place => k_is)
    (case k_Hand_has_place => k_is)
    (case a_Hand_answers_ => k_is)
    (case i_Hand_answers => k_is)
    (case l_Hand_answers => k_is)
    (case c_Hand_answers => k_is)
    (case k_Hand_answers => k_is)
    (case a_Hand_put_ => k_is)
    (case i_Hand_put => k_is)
    (case l_Hand_put => k_is)
    (case c_Hand_put => k_is)
    (case k_Hand_put => k_is)
    (case a_Hand_drop_ => k_is)
    (case i_Hand_drop => k_is)
    (case l_Hand_drop => k_is)
    (case c_Hand_drop => k_is)
    (case k_Hand_drop => k_is)
    (case z1 => k_is)
    (case z2 => k_is)
    (case z3 => k_is)
    (case z4 => k_is)
    (case z5 => k_is)
    (case z6 => k_is)
    (case z7 => k_is)
    (case z8 => k_is)
    (case z9 => k_is)
    (case z10 => k_is)
    (case z11 => k_is)
    (case z12 => k_is)
    (case z13 => k_is)
