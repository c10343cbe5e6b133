import PyProof.Rows.All
import Wide.All
import OpenK.AllK
import Wide.FinOn
import HandS.Base
import HandS.Call
import HandS.List
import HandS.Comp
import HandS.Ends
import HandS.Dict
import HandS.Iter
import HandS.Text
import HandS.Words
import HandS.WordsList
import HandS.WordsDict
import HandS.Wide
import HandS.Zip
import HandS.Flow
import HandS.Flt
import KE.GoesMore
import KE.KDictZip
import PyProof.ReprRoads
import HandS.Walk
import PyProof.TupleOfSeq
import KE.GoesEnum
import HandS.Style
import PyProof.ReprLen
import HandS.IsInst
import HandS.TupAny
import PyProof.EqAt
import PyProof.NeKinds
import HandS.Codes
import HandS.Defaults
import HandS.TupMul
import HandS.Small
import HandS.More
import HandS.DictComp
import HandS.TupSets
import HandS.Strs
import HandS.Exc
import HandS.ExcOwn
import HandS.ExcInit
import HandS.ExcField
import HandS.WordsExc
import HandS.Lambda
import HandS.EndTab
import HandS.EndOwn
import HandS.SetIn
import HandS.SetBool
import HandS.SetFor
import HandS.TryOnly
import HandS.Steps
import PyProof.CollectWalk
import HandS.Conv
import HandS.SortOrd
import HandS.SortRule
import HandS.Deep
import KE.KDictPairs
import PyProof.Rows.TupDisplay
import HandS.DictTup
import PyProof.P3In
import HandS.TryMany
import HandS.OwnEq
import HandS.Property
import KE.KCallOwn
import PySem.Challenge.RW_notbothout_k66_halls_at_first
set_option Elab.async false
set_option linter.all false
set_option maxRecDepth 100000
/-! Defs whose callers are known to show nothing (guards empty): what repr wants. -/
namespace NB
open PySem PySem.Spec PyProof.Rows L2

/-- a def's promise, wherever nothing is being shown around it -/
structure FnG (P : Program) (w : World) (K : PySem.W.Frag) (mg : Str → Option Value) (base : Heap) (k : Nat) (f : Addr) (fd : FuncData) (ps : List Str) (sp : Sp) : Prop where
  len : ∀ vs H Q E, sp vs H Q E → vs.length = ps.length
  go : ∀ (A : Around) (out : List Env) (s : Shared) (H : Hp) (ar : Args) (us : List Value) (vs : List V) (Q : VK) (E : XK),
    A.guards = some [] → Room k A → Env0 P w K mg base A out s H → BindsTo s fd ar (ps.zip us) → Vals vs us → sp vs H Q E →
    codeAny (model P w) A (.call (.ref f) ar) (CR CX0 out P w H s Q E) s

section
variable {P : Program} {w : World} {K : PySem.W.Frag} {mg : Str → Option Value} {base : Heap}

theorem FnG.of {k : Nat} {f : Addr} {fd : FuncData} {ps : List Str} {sp : Sp} (F : FnOk P w K mg base CX0 k f fd ps sp) : FnG P w K mg base k f fd ps sp :=
  ⟨F.len, fun A out s H ar us vs Q E _ => F.run A out s H ar us vs Q E⟩

theorem fnG {x qual : Str} {st : Stmt} {f : Addr} {fd : FuncData} {N ps : List Str} {k : Nat} {sp : Sp} (F : Fun K x qual st f fd)
    (S : FnScope N ps (defScope st)) (len : ∀ vs H Q E, sp vs H Q E → vs.length = ps.length)
    (body : ∀ (c : Value) (A : Around) (out : List Env) (s : Shared) (H : Hp) (vs : List V) (Q : VK) (E : XK),
      A.guards = some [] → Room k (A.deeper (envOfC qual (defScope st) s.heap.objs.size f c)) → sp vs H Q E →
      ∃ t, PSs (cxOf CX0 P w K mg base N qual (defScope st) f c A out s H E).nox (defBody st) t ∧
        t { nx := fun _ H' => Q .non H', rt := Q } (start N vs) H) :
    FnG P w K mg base (k + 1) f fd ps sp := by
  obtain ⟨oc, od, kV, doc, pm, an, c, ct, osl, rfl, lk, hc⟩ := F.ex
  refine ⟨len, fun A out s H ar us vs Q E hg hr e hb r h => ?_⟩
  have stays : ∀ b o, base.get? b = some o → s.heap.get? b = some o := fun b o q => (e.bs b o q).1
  have inH : K.In s.heap := e.mod.kin.keeps stays
  have noLim : s.heap.NoLimit := e.mod.nolimit.keeps stays
  have kinds : ∀ y ∈ ps.zip us, (defScope st).names.lookup y.1 = some .local ∨
      ((defScope st).names.lookup y.1 = some .cell ∧ ((cellsFrom (s.heap.objs.size + 1) (defScope st).names []).lookup y.1).isSome = true) := by
    intro y hy
    obtain ⟨n, v⟩ := y
    cases S.par n (List.of_mem_zip hy).1 with
    | inl q => exact .inl q
    | inr q => exact .inr ⟨q, PySem.W.cellsFrom_some _ _ _ (.inl q)⟩
  refine codeAny_call_function hr.depth (inH _ _ lk) rfl S.co S.gen rfl (PySem.W.codeRec_of inH hc) (hb _ _ _ _ ?_)
  refine wpAny_newFunctionEnv_cells S.kind kinds ?_
  rintro env rfl s1 x
  refine ⟨noLim.keeps x.toInCall.keep, codeAny_func ?_⟩
  obtain ⟨t, ht, hq⟩ := body c A out s H vs Q E hg (hr.deeper _) h
  have I := inv_start (CX := CX0) (E := E) S hr.hd e (len _ _ _ _ h) r x
  refine wpAny_mono (ht.nox.run [] s1 (start N vs) H _ I hq) ?_ fun _ _ z => z
  intro fl s' z
  cases fl with
  | ret u =>
    obtain ⟨v, σ', H', J, rv, q⟩ := z
    exact ⟨v, H', J.os, J.bare, J.base, J.hok, rv, q⟩
  | next =>
    obtain ⟨σ', H', J, q⟩ := z
    exact ⟨V.non, H', J.os, J.bare, J.base, J.hok, rfl, q⟩
  | brk => exact False.elim z.choose_spec.choose_spec.2
  | cont => exact False.elim z.choose_spec.choose_spec.2
end

section
variable {X : Cx} {k : Nat} {f : Addr} {fd : FuncData} {ps : List Str} {sp : Sp} {x : Str} {p pos : Pos} {e : Expr} {es : List Expr} {t : TA}
/-- f(..) of such a def, all arguments written -/
theorem pe_callG (hG : X.A.guards = some []) (F : FnG X.prog X.w X.K X.mg X.base k f fd ps sp) (hr : Room k X.A) (hg : Gl X x) (hm : X.mg x = some (.ref f))
    (hk : PySem.W.keepIn X.K (.ref f) = true) (hb : Binds X.K fd ps []) (ha : PA X (e :: es) t) (hdb : (x == ("__debug__" : Str)) = false := by decide)
    (he : starEach (e :: es) X.env = (false, eval e X.env) :: starEach es X.env := by rfl) (hpl : (backTo pos (starEach es X.env)).any (·.1) = false := by rfl) :
    PE X (.Call (.Name x p) (e :: es) [] pos) (tCall sp [] E0 t) := by
  refine ⟨fun pins s σ H Q I h => wpAny_Call_Name_kw (ld_glob I hg hm ?_ hdb)⟩
  refine PySem.W.callWith_K (h₀ := X.base) I.ok.mod.kin hk (thn (ha.run pos pins s σ H _ I h) ?_) he hpl
  rintro us s1 ⟨vs, H1, I1, r, q⟩
  refine ⟨I1.kIn, wpAny_call ?_⟩
  have q2 : sp vs H1 Q E0 := by
    have q' : sp (vs ++ []) H1 Q E0 := q
    rwa [List.append_nil] at q'
  have ln : us.length = ps.length := r.length.symm.trans (F.len _ _ _ _ q2)
  have bnd : BindsTo s1 fd ⟨us, []⟩ (ps.zip us) := by
    have b := hb s1 us I1.kIn (by rw [List.append_nil]; exact ln)
    rwa [List.append_nil] at b
  refine codeAny_mono (F.go X.A X.stack s1 H1 ⟨us, []⟩ us vs Q E0 hG hr I1.env0 bnd r q2) ?_
  intro rs s' z
  cases rs with
  | error e => exact False.elim z
  | ok fl =>
    cases fl with
    | ret u => exact I1.after z
    | next => exact False.elim z
    | brk => exact False.elim z
    | cont => exact False.elim z
end

section
variable {X : Cx}
/-- what repr asks of data -/
structure Showable (d : PyData) : Prop where
  sh : d.showable = true
  nd : d.hasDict = false
  dp : d.depth ≤ 60
  sz : d.shown.length ≤ sizeLine
/-- repr(x), x a list or a tuple of data -/
theorem call_reprD (hG : X.A.guards = some []) (hu : X.A.units + 64 < cLine) : CallR X (.builtin "repr") (fun xs H Q => ∃ a d, xs = [.ref a] ∧ Dp X.K H (.ref a) d ∧ Showable d ∧ Q (.str d.shown) H) := by
  intro pins s σ H xs us Q I r h
  obtain ⟨a, d, rfl, hd, S, q⟩ := h
  obtain ⟨u, rfl, ru⟩ := vals1 r
  obtain ⟨as, rd⟩ := Dp.reads I d _ u hd ru
  cases ru
  have hn := S.dp
  exact repr_of_reads' rd S.sh (PyData.noDict_hsm S.nd) hG (by omega) (fun _ _ z => z) (fun h' u tk hk => ⟨.str _, H, I.kept hk, ⟨_, rfl⟩, q⟩) S.sz
end
end NB

set_option Elab.async false
set_option linter.all false
set_option maxRecDepth 100000
set_option maxHeartbeats 1000000
/-! zip of three tuples of one length, its turns given to one name or to three. -/
namespace NB
open PySem PySem.Spec PyProof.Rows L2
open PySem.Sem (wp)

/-- a zip as it stands between two turns: a is None or the tuple given out last -/
abbrev Zat (h : Heap) (z ti to : Addr) (a b : Value) : Prop :=
  h.get? z = some { cls := .type "zip", dict := none, data := .fields #[a, b, .bool false, .ref ti, .ref to], slots := #[] }
def Out (a : Value) : Prop := a = .none ∨ ∃ T : Addr, a = rawInt T

section
variable {prog : Program} {w : World} {A : Around} {E : Value → Shared → Prop} {s : Shared} {z ti to i1 i2 i3 l1 l2 l3 : Addr} {a a1 a2 a3 : Value} {f : Bool} {xs ys zs : Array Value} {i : Nat}

theorem freeOr {Q : Bool → Shared → Prop} (ho : Out a) (hz : Zat s.heap z ti to a (.bool f))
    (h : ∀ (b : Bool) (h' : Heap) (g : Bool), Zat h' z ti to a (.bool g) → Heap.SameBut z s.heap h' → Q b { s with heap := h' }) :
    wpAny (model prog w) A (Builtin.SmallTypes.ownedTupleIsFree (.ref z)) Q E s := by
  unfold Builtin.SmallTypes.ownedTupleIsFree
  refine wpAny_bind (wpAny_field hz rfl (x := a) rfl ?_)
  rcases ho with e | ⟨T, e⟩
  · subst e
    exact wpAny_pure (h true s.heap f hz (Heap.SameBut.refl _ _))
  · subst e
    show wpAny _ _ (loadIfAlive ((T : Int).toNat) >>= _) _ _ _
    rw [Int.toNat_natCast]
    refine wpAny_bind ?_
    cases e : s.heap.get? T with
    | none =>
      have key : wpAny (model prog w) A (loadIfAlive T) (fun r s' => r = none ∧ s' = s) E s := fun _ _ _ => ⟨e, rfl⟩
      refine thn key fun r s' q => ?_
      obtain ⟨rfl, rfl⟩ := q
      exact wpAny_pure (h true _ f hz (Heap.SameBut.refl _ _))
    | some o =>
      refine PySem.W.kdx_alive e ?_
      simp only [Option.isNone_some, Bool.false_eq_true, if_false]
      refine wpAny_bind (wpAny_field hz rfl (x := .bool f) rfl ?_)
      cases f with
      | true =>
        rw [if_neg (show ¬ ((Value.bool true != Value.bool true) = true) by decide)]
        exact wpAny_pure (h false s.heap true hz (Heap.SameBut.refl _ _))
      | false =>
        rw [if_pos (show (Value.bool false != Value.bool true) = true by decide)]
        exact wpAny_bind (wpAny_setField_rec hz (by simp) fun h1 z1 s1 => wpAny_pure (h false h1 true z1 s1))

/-- the three iterators over their tuples at turn i, apart from the zip's own cells -/
abbrev St3 (h : Heap) (i1 i2 i3 l1 l2 l3 : Addr) (xs ys zs : Array Value) (i : Nat) : Prop :=
  (h.IsTupleIter i1 l1 i ∧ h.IsTuple l1 xs) ∧ (h.IsTupleIter i2 l2 i ∧ h.IsTuple l2 ys) ∧ (h.IsTupleIter i3 l3 i ∧ h.IsTuple l3 zs)

theorem keepIt {h h' : Heap} {it l : Addr} {k : Nat} {vs : Array Value} (st : h.IsTupleIter it l k ∧ h.IsTuple l vs) {x : Addr} (hs : Heap.SameBut x h h') (n1 : it ≠ x) (n2 : l ≠ x) : h'.IsTupleIter it l k ∧ h'.IsTuple l vs :=
  ⟨st.1.extBut hs.extBut n1, st.2.extBut hs.extBut n2⟩

structure Far3 (z ti to i1 i2 i3 l1 l2 l3 : Addr) : Prop where
  tiz : ti ≠ z
  toz : to ≠ z
  tito : ti ≠ to
  ti1 : ti ≠ i1
  ti2 : ti ≠ i2
  ti3 : ti ≠ i3
  to1 : to ≠ i1
  to2 : to ≠ i2
  to3 : to ≠ i3
  z1 : i1 ≠ z
  z2 : i2 ≠ z
  z3 : i3 ≠ z
  n12 : i1 ≠ i2
  n13 : i1 ≠ i3
  n23 : i2 ≠ i3
  l1n : l1 ≠ z ∧ l1 ≠ to ∧ l1 ≠ i1 ∧ l1 ≠ i2 ∧ l1 ≠ i3
  l2n : l2 ≠ z ∧ l2 ≠ to ∧ l2 ≠ i1 ∧ l2 ≠ i2 ∧ l2 ≠ i3
  l3n : l3 ≠ z ∧ l3 ≠ to ∧ l3 ≠ i1 ∧ l3 ≠ i2 ∧ l3 ≠ i3

theorem drawT {it l : Addr} {k : Nat} {vs : Array Value} {x : Value} {Q : Value → Shared → Prop} (st : s.heap.IsTupleIter it l k ∧ s.heap.IsTuple l vs) (ne : l ≠ it) (hx : vs[k]? = some x)
    (h : ∀ h', (h'.IsTupleIter it l (k + 1) ∧ h'.IsTuple l vs) → Heap.SameBut it s.heap h' → Q x { s with heap := h' }) :
    wpAny (model prog w) A (Builtin.SmallTypes.nextOf (.ref it)) Q E s :=
  RZ.nextOf_tuple_item st.1 st.2 hx fun h' q1 q2 => h h' ⟨q1, st.2.extBut q2.extBut ne⟩ q2

theorem next3 {x1 x2 x3 : Value} {Q : Value → Shared → Prop} (D : Far3 z ti to i1 i2 i3 l1 l2 l3) (ho : Out a) (hz : Zat s.heap z ti to a (.bool f))
    (hI : IsTupOf3 s.heap ti (.ref i1) (.ref i2) (.ref i3)) (hO : IsTupOf3 s.heap to a1 a2 a3) (st : St3 s.heap i1 i2 i3 l1 l2 l3 xs ys zs i)
    (hx : xs[i]? = some x1) (hy : ys[i]? = some x2) (hw : zs[i]? = some x3)
    (hQ : ∀ (h' : Heap) (a' : Value) (g : Bool) (b1 b2 b3 : Value), Out a' → Zat h' z ti to a' (.bool g) → IsTupOf3 h' to b1 b2 b3 → St3 h' i1 i2 i3 l1 l2 l3 xs ys zs (i + 1) → IsTupOf3 h' s.heap.objs.size x1 x2 x3 → h'.objs.size = s.heap.objs.size + 1 →
      (∀ c o, c ≠ z → c ≠ to → c ≠ i1 → c ≠ i2 → c ≠ i3 → s.heap.get? c = some o → h'.get? c = some o) → Q (.ref s.heap.objs.size) { s with heap := h' }) :
    wpAny (model prog w) A (Builtin.«zip.__next__» ⟨[.ref z], []⟩) (fun fin s' => ∃ v, fin = .done (.ret v) ∧ Q v s') E s := by
  obtain ⟨hp, gg, dd, tk, os⟩ := s
  show wpAny _ _ (field (.ref z) 2 >>= _) _ _ _
  refine wpAny_bind (wpAny_field hz rfl (x := .bool false) rfl ?_)
  show wpAny _ _ (field (.ref z) 3 >>= _) _ _ _
  refine wpAny_bind (wpAny_field hz rfl (x := .ref ti) rfl ?_)
  refine wpAny_bind (wpAny_seqItems hI rfl ?_)
  show wpAny _ _ (Builtin.SmallTypes.ownedTupleIsFree (.ref z) >>= _) _ _ _
  refine wpAny_bind (freeOr ho hz fun b h1 f1 hz1 hs1 => ?_)
  replace hs1 : Heap.SameBut z hp h1 := hs1
  obtain ⟨sa, sb, sc⟩ := st
  have sa1 := keepIt sa hs1 D.z1 D.l1n.1
  have sb1 := keepIt sb hs1 D.z2 D.l2n.1
  have sc1 := keepIt sc hs1 D.z3 D.l3n.1
  have hO1 : IsTupOf3 h1 to a1 a2 a3 := hs1.extBut _ _ D.toz hO
  cases b with
  | false =>
    simp only [Bool.false_eq_true, if_false]
    refine wpAny_bind ?_
    rw [← Array.forIn_toList]
    simp only [List.forIn_cons, List.forIn_nil]
    refine wpAny_bind (wpAny_bind (wpAny_holding ?_))
    show wpAny _ _ (Builtin.SmallTypes.nextOf (.ref i1) >>= _) _ _ ⟨h1, gg, dd, tk, os⟩
    refine wpAny_bind (drawT (s := ⟨h1, gg, dd, tk, os⟩) sa1 D.l1n.2.2.1 hx fun h2 sa2 hs2 => wpAny_pure (wpAny_pure ?_))
    replace hs2 : Heap.SameBut i1 h1 h2 := hs2
    have sb2 := keepIt sb1 hs2 D.n12.symm D.l2n.2.2.1
    have sc2 := keepIt sc1 hs2 D.n13.symm D.l3n.2.2.1
    refine wpAny_bind (wpAny_bind (wpAny_holding ?_))
    show wpAny _ _ (Builtin.SmallTypes.nextOf (.ref i2) >>= _) _ _ ⟨h2, gg, dd, tk, os⟩
    refine wpAny_bind (drawT (s := ⟨h2, gg, dd, tk, os⟩) sb2 D.l2n.2.2.2.1 hy fun h3 sb3 hs3 => wpAny_pure (wpAny_pure ?_))
    replace hs3 : Heap.SameBut i2 h2 h3 := hs3
    have sa3 := keepIt sa2 hs3 D.n12 D.l1n.2.2.2.1
    have sc3 := keepIt sc2 hs3 D.n23.symm D.l3n.2.2.2.1
    refine wpAny_bind (wpAny_bind (wpAny_holding ?_))
    show wpAny _ _ (Builtin.SmallTypes.nextOf (.ref i3) >>= _) _ _ ⟨h3, gg, dd, tk, os⟩
    refine wpAny_bind (drawT (s := ⟨h3, gg, dd, tk, os⟩) sc3 D.l3n.2.2.2.2 hw fun h4 sc4 hs4 => wpAny_pure (wpAny_pure (wpAny_pure ?_)))
    replace hs4 : Heap.SameBut i3 h3 h4 := hs4
    have sa4 := keepIt sa3 hs4 D.n13 D.l1n.2.2.2.2
    have sb4 := keepIt sb3 hs4 D.n23 D.l2n.2.2.2.2
    show wpAny _ _ (newTuple [x1, x2, x3] >>= _) _ _ ⟨h4, gg, dd, tk, os⟩
    refine wpAny_bind (wpAny_newTuple (wpAny_pure ⟨_, rfl, ?_⟩))
    have sz : h4.objs.size = hp.objs.size := by rw [hs4.1, hs3.1, hs2.1, hs1.1]
    have kk : ∀ c o, c ≠ z → c ≠ i1 → c ≠ i2 → c ≠ i3 → hp.get? c = some o → h4.get? c = some o := fun c o c0 c1 c2 c3 e =>
      hs4.extBut _ _ c3 (hs3.extBut _ _ c2 (hs2.extBut _ _ c1 (hs1.extBut _ _ c0 e)))
    have hz4 : Zat h4 z ti to a (.bool f1) := hs4.extBut _ _ D.z3.symm (hs3.extBut _ _ D.z2.symm (hs2.extBut _ _ D.z1.symm hz1))
    have hO4 : IsTupOf3 h4 to a1 a2 a3 := kk _ _ D.toz D.to1 D.to2 D.to3 hO
    have up : ∀ c o, h4.get? c = some o → (h4.push { cls := .type "tuple", data := .seq #[x1, x2, x3] }).get? c = some o := fun c o e => Heap.get?_push_of_some _ e
    have nw : IsTupOf3 (h4.push { cls := .type "tuple", data := .seq #[x1, x2, x3] }) h4.objs.size x1 x2 x3 := Heap.get?_push_size _ rfl
    have zw : (h4.push { cls := .type "tuple", data := .seq #[x1, x2, x3] }).objs.size = h4.objs.size + 1 := Heap.size_push ..
    show Q (.ref h4.objs.size) _
    rw [sz] at nw zw ⊢
    exact hQ _ a f1 a1 a2 a3 ho (up _ _ hz4) (up _ _ hO4)
      ⟨⟨sa4.1.at fun o e => up _ o e, sa4.2.push _⟩, ⟨sb4.1.at fun o e => up _ o e, sb4.2.push _⟩, ⟨sc4.1.at fun o e => up _ o e, sc4.2.push _⟩⟩ nw zw
      fun c o c0 _ c1 c2 c3 e => up c o (kk c o c0 c1 c2 c3 e)
  | true =>
    simp only [if_true]
    refine wpAny_bind (wpAny_rule ?_)
    refine wpAny_bind (wpAny_field (s := ⟨h1, gg, dd, tk, os⟩) hz1 rfl (x := .ref to) rfl ?_)
    refine wpAny_bind (wpAny_setField_rec (s := ⟨h1, gg, dd, tk, os⟩) hz1 (by simp) fun g0 z0 s0 => ?_)
    replace z0 : Zat g0 z ti to .ellipsis (.bool f1) := z0
    replace s0 : Heap.SameBut z h1 g0 := s0
    have ta0 := keepIt sa1 s0 D.z1 D.l1n.1
    have tb0 := keepIt sb1 s0 D.z2 D.l2n.1
    have tc0 := keepIt sc1 s0 D.z3 D.l3n.1
    have o0 : IsTupOf3 g0 to a1 a2 a3 := s0.extBut _ _ D.toz hO1
    refine wpAny_bind ?_
    simp only [List.zipIdx_cons, List.zipIdx_nil, List.forIn_cons, List.forIn_nil]
    refine wpAny_bind (wpAny_bind (wpAny_onRaise ?_))
    show wpAny _ _ (Builtin.SmallTypes.nextOf (.ref i1) >>= _) _ _ ⟨g0, gg, dd, tk, os⟩
    refine wpAny_bind (drawT (s := ⟨g0, gg, dd, tk, os⟩) ta0 D.l1n.2.2.1 hx fun p1 ta1 s1 => wpAny_pure ?_)
    replace s1 : Heap.SameBut i1 g0 p1 := s1
    have o1 : IsTupOf3 p1 to a1 a2 a3 := s1.extBut _ _ D.to1 o0
    refine wpAny_bind (wpAny_seqItems (s := ⟨p1, gg, dd, tk, os⟩) o1 rfl ?_)
    refine wpAny_bind (updateSeq_IsTupOf3 (s := ⟨p1, gg, dd, tk, os⟩) o1 fun q1 u1 r1 => wpAny_bind (wpAny_letGo (wpAny_pure ?_)))
    replace u1 : IsTupOf3 q1 to x1 a2 a3 := u1
    replace r1 : Heap.SameBut to p1 q1 := r1
    have ta2 := keepIt ta1 r1 D.to1.symm D.l1n.2.1
    have tb2 := keepIt (keepIt tb0 s1 D.n12.symm D.l2n.2.2.1) r1 D.to2.symm D.l2n.2.1
    have tc2 := keepIt (keepIt tc0 s1 D.n13.symm D.l3n.2.2.1) r1 D.to3.symm D.l3n.2.1
    refine wpAny_bind (wpAny_bind (wpAny_onRaise ?_))
    show wpAny _ _ (Builtin.SmallTypes.nextOf (.ref i2) >>= _) _ _ ⟨q1, gg, dd, tk, os⟩
    refine wpAny_bind (drawT (s := ⟨q1, gg, dd, tk, os⟩) tb2 D.l2n.2.2.2.1 hy fun p2 tb3 s2 => wpAny_pure ?_)
    replace s2 : Heap.SameBut i2 q1 p2 := s2
    have o2 : IsTupOf3 p2 to x1 a2 a3 := s2.extBut _ _ D.to2 u1
    refine wpAny_bind (wpAny_seqItems (s := ⟨p2, gg, dd, tk, os⟩) o2 rfl ?_)
    refine wpAny_bind (updateSeq_IsTupOf3 (s := ⟨p2, gg, dd, tk, os⟩) o2 fun q2 u2 r2 => wpAny_bind (wpAny_letGo (wpAny_pure ?_)))
    replace u2 : IsTupOf3 q2 to x1 x2 a3 := u2
    replace r2 : Heap.SameBut to p2 q2 := r2
    have ta4 := keepIt (keepIt ta2 s2 D.n12 D.l1n.2.2.2.1) r2 D.to1.symm D.l1n.2.1
    have tb4 := keepIt tb3 r2 D.to2.symm D.l2n.2.1
    have tc4 := keepIt (keepIt tc2 s2 D.n23.symm D.l3n.2.2.2.1) r2 D.to3.symm D.l3n.2.1
    refine wpAny_bind (wpAny_bind (wpAny_onRaise ?_))
    show wpAny _ _ (Builtin.SmallTypes.nextOf (.ref i3) >>= _) _ _ ⟨q2, gg, dd, tk, os⟩
    refine wpAny_bind (drawT (s := ⟨q2, gg, dd, tk, os⟩) tc4 D.l3n.2.2.2.2 hw fun p3 tc5 s3 => wpAny_pure ?_)
    replace s3 : Heap.SameBut i3 q2 p3 := s3
    have o3 : IsTupOf3 p3 to x1 x2 a3 := s3.extBut _ _ D.to3 u2
    refine wpAny_bind (wpAny_seqItems (s := ⟨p3, gg, dd, tk, os⟩) o3 rfl ?_)
    refine wpAny_bind (updateSeq_IsTupOf3 (s := ⟨p3, gg, dd, tk, os⟩) o3 fun q3 u3 r3 => wpAny_bind (wpAny_letGo (wpAny_pure (wpAny_pure ?_))))
    replace u3 : IsTupOf3 q3 to x1 x2 x3 := u3
    replace r3 : Heap.SameBut to p3 q3 := r3
    have ta6 := keepIt (keepIt ta4 s3 D.n13 D.l1n.2.2.2.2) r3 D.to1.symm D.l1n.2.1
    have tb6 := keepIt (keepIt tb4 s3 D.n23 D.l2n.2.2.2.2) r3 D.to2.symm D.l2n.2.1
    have tc6 := keepIt tc5 r3 D.to3.symm D.l3n.2.1
    refine wpAny_bind (wpAny_seqItems (s := ⟨q3, gg, dd, tk, os⟩) u3 rfl (wpAny_bind (wpAny_newTuple ?_)))
    have sz : q3.objs.size = hp.objs.size := by rw [r3.1, s3.1, r2.1, s2.1, r1.1, s1.1, s0.1, hs1.1]
    have hz3 : Zat q3 z ti to .ellipsis (.bool f1) := r3.extBut _ _ D.toz.symm (s3.extBut _ _ D.z3.symm (r2.extBut _ _ D.toz.symm (s2.extBut _ _ D.z2.symm (r1.extBut _ _ D.toz.symm (s1.extBut _ _ D.z1.symm z0)))))
    have kk : ∀ c o, c ≠ z → c ≠ to → c ≠ i1 → c ≠ i2 → c ≠ i3 → hp.get? c = some o → q3.get? c = some o := fun c o c0 ct c1 c2 c3 e =>
      r3.extBut _ _ ct (s3.extBut _ _ c3 (r2.extBut _ _ ct (s2.extBut _ _ c2 (r1.extBut _ _ ct (s1.extBut _ _ c1 (s0.extBut _ _ c0 (hs1.extBut _ _ c0 e)))))))
    have zlt : z < q3.objs.size := Heap.lt_size hz3
    show wpAny _ _ (Builtin.SmallTypes.ownedTupleHandOut (.ref z) (.ref q3.objs.size) >>= _) _ _ ⟨q3.push { cls := .type "tuple", data := .seq #[x1, x2, x3] }, gg, dd, tk, os⟩
    refine wpAny_bind ?_
    unfold Builtin.SmallTypes.ownedTupleHandOut
    have z5 : Zat (q3.push { cls := .type "tuple", data := .seq #[x1, x2, x3] }) z ti to .ellipsis (.bool f1) := Heap.get?_push_of_some _ hz3
    refine wpAny_bind (wpAny_setField_rec z5 (by simp) fun h7 z7 s7 => ?_)
    replace z7 : Zat h7 z ti to (rawInt q3.objs.size) (.bool f1) := z7
    replace s7 : Heap.SameBut z (q3.push { cls := .type "tuple", data := .seq #[x1, x2, x3] }) h7 := s7
    refine wpAny_setField_rec z7 (by simp) fun h8 z8 s8 => ?_
    replace z8 : Zat h8 z ti to (rawInt q3.objs.size) (.bool false) := z8
    replace s8 : Heap.SameBut z h7 h8 := s8
    have up : ∀ c o, c ≠ z → q3.get? c = some o → h8.get? c = some o := fun c o c1 e => s8.extBut _ _ c1 (s7.extBut _ _ c1 (Heap.get?_push_of_some _ e))
    have nw : IsTupOf3 h8 q3.objs.size x1 x2 x3 := s8.extBut _ _ (Nat.ne_of_gt zlt) (s7.extBut _ _ (Nat.ne_of_gt zlt) (Heap.get?_push_size _ rfl))
    have zw : h8.objs.size = q3.objs.size + 1 := by rw [s8.1, s7.1, Heap.size_push]
    have fin : ∀ {it l : Addr} {k : Nat} {vs : Array Value}, (q3.IsTupleIter it l k ∧ q3.IsTuple l vs) → it ≠ z → l ≠ z → h8.IsTupleIter it l k ∧ h8.IsTuple l vs := fun {it l k vs} st n1 n2 =>
      keepIt (keepIt ⟨st.1.at fun o e => Heap.get?_push_of_some _ e, st.2.push _⟩ s7 n1 n2) s8 n1 n2
    refine wpAny_pure ⟨_, rfl, ?_⟩
    show Q (.ref q3.objs.size) _
    rw [sz] at nw zw z8 ⊢
    exact hQ h8 _ false x1 x2 x3 (.inr ⟨_, rfl⟩) z8 (up _ _ D.toz u3) ⟨fin ta6 D.z1 D.l1n.1, fin tb6 D.z2 D.l2n.1, fin tc6 D.z3 D.l3n.1⟩ nw zw
      fun c o c0 ct c1 c2 c3 e => up c o c0 (kk c o c0 ct c1 c2 c3 e)

theorem end3 {Q : Fin → Shared → Prop} (hh : A.handled = none) (D : Far3 z ti to i1 i2 i3 l1 l2 l3) (ho : Out a) (hz : Zat s.heap z ti to a (.bool f))
    (hI : IsTupOf3 s.heap ti (.ref i1) (.ref i2) (.ref i3)) (st : s.heap.IsTupleIter i1 l1 i ∧ s.heap.IsTuple l1 xs) (hx : xs[i]? = none)
    (hE : ∀ h' e, (∀ c o, c ≠ z → c ≠ to → c ≠ i1 → c ≠ i2 → c ≠ i3 → s.heap.get? c = some o → h'.get? c = some o) → (∃ o, h'.get? e = some o ∧ o.cls = .type "StopIteration") → E (.ref e) { s with heap := h' }) :
    wpAny (model prog w) A (Builtin.«zip.__next__» ⟨[.ref z], []⟩) Q E s := by
  obtain ⟨hp, gg, dd, tk, os⟩ := s
  show wpAny _ _ (field (.ref z) 2 >>= _) _ _ _
  refine wpAny_bind (wpAny_field hz rfl (x := .bool false) rfl ?_)
  show wpAny _ _ (field (.ref z) 3 >>= _) _ _ _
  refine wpAny_bind (wpAny_field hz rfl (x := .ref ti) rfl ?_)
  refine wpAny_bind (wpAny_seqItems hI rfl ?_)
  show wpAny _ _ (Builtin.SmallTypes.ownedTupleIsFree (.ref z) >>= _) _ _ _
  refine wpAny_bind (freeOr ho hz fun b h1 f1 hz1 hs1 => ?_)
  replace hs1 : Heap.SameBut z hp h1 := hs1
  have sa1 := keepIt st hs1 D.z1 D.l1n.1
  cases b with
  | false =>
    simp only [Bool.false_eq_true, if_false]
    refine wpAny_bind ?_
    rw [← Array.forIn_toList]
    simp only [List.forIn_cons, List.forIn_nil]
    refine wpAny_bind (wpAny_bind (wpAny_holding ?_))
    show wpAny _ _ (Builtin.SmallTypes.nextOf (.ref i1) >>= _) _ _ ⟨h1, gg, dd, tk, os⟩
    refine wpAny_bind (RZ.nextOf_tuple_end (s := ⟨h1, gg, dd, tk, os⟩) hh sa1.1 sa1.2 hx fun h2 e hs2 he => ?_)
    exact hE h2 e (fun c o c0 _ c1 _ _ q => hs2 _ _ c1 (hs1.extBut _ _ c0 q)) he
  | true =>
    simp only [if_true]
    refine wpAny_bind (wpAny_rule ?_)
    refine wpAny_bind (wpAny_field (s := ⟨h1, gg, dd, tk, os⟩) hz1 rfl (x := .ref to) rfl ?_)
    refine wpAny_bind (wpAny_setField_rec (s := ⟨h1, gg, dd, tk, os⟩) hz1 (by simp) fun g0 z0 s0 => ?_)
    replace z0 : Zat g0 z ti to .ellipsis (.bool f1) := z0
    replace s0 : Heap.SameBut z h1 g0 := s0
    have ta0 := keepIt sa1 s0 D.z1 D.l1n.1
    refine wpAny_bind ?_
    simp only [List.zipIdx_cons, List.zipIdx_nil, List.forIn_cons, List.forIn_nil]
    refine wpAny_bind (wpAny_bind (wpAny_onRaise ?_))
    show wpAny _ _ (Builtin.SmallTypes.nextOf (.ref i1) >>= _) _ _ ⟨g0, gg, dd, tk, os⟩
    refine wpAny_bind (RZ.nextOf_tuple_end (s := ⟨g0, gg, dd, tk, os⟩) hh ta0.1 ta0.2 hx fun h2 e hs2 he => ?_)
    obtain ⟨oe, hoe, hce⟩ := he
    replace hs2 : Heap.ExtBut i1 g0 h2 := hs2
    replace hoe : h2.get? e = some oe := hoe
    have z2 : Zat h2 z ti to .ellipsis (.bool f1) := hs2 _ _ D.z1.symm z0
    have ne : e ≠ z := fun q => by subst q; rw [z2] at hoe; cases hoe; simp at hce
    refine wpAny_setField_rec (s := ⟨h2, gg, dd, tk, os⟩) z2 (by simp) fun h3 _ s3 => ?_
    replace s3 : Heap.SameBut z h2 h3 := s3
    exact hE h3 e (fun c o c0 _ c1 _ _ q => s3.extBut _ _ c0 (hs2 _ _ c1 (s0.extBut _ _ c0 (hs1.extBut _ _ c0 q)))) ⟨oe, s3.extBut _ _ ne hoe, hce⟩
end
end NB

set_option Elab.async false
set_option linter.all false
set_option maxRecDepth 100000
set_option maxHeartbeats 1000000
namespace NB
open PySem PySem.Spec PyProof.Rows L2

section
variable {prog : Program} {w : World} {A : Around} {E : Value → Shared → Prop} {s : Shared} {z ti to i1 i2 i3 l1 l2 l3 : Addr} {a a1 a2 a3 : Value} {f : Bool} {xs ys zs : Array Value} {i : Nat}

theorem pyNext3 {x1 x2 x3 : Value} {Q : Option Value → Shared → Prop} (D : Far3 z ti to i1 i2 i3 l1 l2 l3) (ho : Out a) (hz : Zat s.heap z ti to a (.bool f))
    (hI : IsTupOf3 s.heap ti (.ref i1) (.ref i2) (.ref i3)) (hO : IsTupOf3 s.heap to a1 a2 a3) (st : St3 s.heap i1 i2 i3 l1 l2 l3 xs ys zs i)
    (hx : xs[i]? = some x1) (hy : ys[i]? = some x2) (hw : zs[i]? = some x3)
    (hQ : ∀ (h' : Heap) (a' : Value) (g : Bool) (b1 b2 b3 : Value), Out a' → Zat h' z ti to a' (.bool g) → IsTupOf3 h' to b1 b2 b3 → St3 h' i1 i2 i3 l1 l2 l3 xs ys zs (i + 1) → IsTupOf3 h' s.heap.objs.size x1 x2 x3 → h'.objs.size = s.heap.objs.size + 1 →
      (∀ c o, c ≠ z → c ≠ to → c ≠ i1 → c ≠ i2 → c ≠ i3 → s.heap.get? c = some o → h'.get? c = some o) → Q (some (.ref s.heap.objs.size)) { s with heap := h' }) :
    wpAny (model prog w) A (pyNext (.ref z)) Q E s := by
  have ty : s.TypeIs (.ref z) "zip" := ⟨_, hz, rfl⟩
  unfold pyNext
  refine wpAny_bind (wpAny_attempt (wpAny_callSpecial?_slot (name := Str.ofString "__next__") ty F.slot_zip_next ?_))
  refine wpAny_call_entry F.slot_zip_next ty F.entry_zip_next ?_ (F.args_zip_next_1 _)
  exact next3 D ho hz hI hO st hx hy hw fun h' a' g b1 b2 b3 c1 c2 c3 c4 c5 c6 c7 => wpAny_pure (hQ h' a' g b1 b2 b3 c1 c2 c3 c4 c5 c6 c7)

theorem pyEnd3 {Q : Option Value → Shared → Prop} (hh : A.handled = none) (D : Far3 z ti to i1 i2 i3 l1 l2 l3) (ho : Out a) (hz : Zat s.heap z ti to a (.bool f))
    (hI : IsTupOf3 s.heap ti (.ref i1) (.ref i2) (.ref i3)) (st : s.heap.IsTupleIter i1 l1 i ∧ s.heap.IsTuple l1 xs) (hx : xs[i]? = none)
    (hQ : ∀ h', (∀ c o, c ≠ z → c ≠ to → c ≠ i1 → c ≠ i2 → c ≠ i3 → s.heap.get? c = some o → h'.get? c = some o) → Q none { s with heap := h' }) :
    wpAny (model prog w) A (pyNext (.ref z)) Q E s := by
  have ty : s.TypeIs (.ref z) "zip" := ⟨_, hz, rfl⟩
  unfold pyNext
  refine wpAny_bind (wpAny_attempt (wpAny_callSpecial?_slot (name := Str.ofString "__next__") ty F.slot_zip_next ?_))
  refine wpAny_call_entry F.slot_zip_next ty F.entry_zip_next (end3 hh D ho hz hI st hx fun h' e hk he => ?_) (F.args_zip_next_1 _)
  obtain ⟨o, h1, h2⟩ := he
  exact wpAny_bind (wpAny_isInstance (T := "StopIteration") (b := true) ⟨o, h1, h2⟩ isSubtype_stop (wpAny_pure (hQ _ hk)))

/-- ahead of the target's store: a target of several names lets the tuple go -/
theorem letGo3 {tg : Expr} {T : Addr} {Q : Unit → Shared → Prop} (ho : Out a) (hz : Zat s.heap z ti to a (.bool f))
    (h : ∀ (h' : Heap) (a' : Value), Out a' → Zat h' z ti to a' (.bool f) → Heap.SameBut z s.heap h' → Q () { s with heap := h' }) :
    wpAny (model prog w) A (letOwnedTupleGo tg (.ref z) (.ref T)) Q E s := by
  have same : Q () s := h s.heap a ho hz (Heap.SameBut.refl _ _)
  have main : wpAny (model prog w) A (do
      let o ← load z
      match o.cls, o.data with
      | .type n, .fields vs =>
        if ["enumerate", "zip", "dict_itemiterator", "dict_reverseitemiterator", "odict_iterator", "itertools.zip_longest", "itertools.pairwise"].contains n && vs[0]? == some (rawInt T) then
          rule "for.unpacks-the-owned-tuple"
          updateField z 0 .none
      | _, _ => pure ()) Q E s := by
    refine wpAny_bind (wpAny_load hz ?_)
    dsimp only
    split
    · refine wpAny_bind (wpAny_rule ?_)
      show wpAny _ _ (setField (.ref z) 0 .none) Q E s
      exact wpAny_setField_rec hz (by simp) fun h' z' s' => h h' .none (.inl rfl) z' s'
    · exact wpAny_pure same
  unfold letOwnedTupleGo
  cases tg <;> first
    | exact wpAny_pure same
    | exact main

theorem iter3 {Q : Value → Shared → Prop} (hz : Zat s.heap z ti to a (.bool f)) (h : Q (.ref z) s) : wpAny (model prog w) A (pyIter (.ref z)) Q E s := by
  have ty : s.TypeIs (.ref z) "zip" := ⟨_, hz, rfl⟩
  refine wpAny_pyIter_slot ty F.slot_zip_iter (wpAny_call_entry F.slot_zip_iter ty F.entry_zip_iter ?_ (F.args_zip_iter_1 _))
  show wpAny _ _ (ret (.ref z)) _ _ s
  exact wpAny_pure ⟨_, rfl, "zip", _, ty, F.slot_zip_next.lookup, h⟩
end

/-- three tuples of one length, turn by turn: a new tuple of the three items -/
def It3 (K : PySem.W.Frag) (a b c : Addr) : It :=
  ⟨fun i H => ∃ (xs ys zs : List V) (x y z : V), SqT K H a xs ∧ SqT K H b ys ∧ SqT K H c zs ∧ xs[i]? = some x ∧ ys[i]? = some y ∧ zs[i]? = some z,
    fun i H v H' => ∃ T x y z, v = .ref T ∧ H T = none ∧ H' = upd H T (.tup [x, y, z]) ∧ (∀ xs, SqT K H a xs → xs[i]? = some x) ∧ (∀ ys, SqT K H b ys → ys[i]? = some y) ∧ ∀ zs, SqT K H c zs → zs[i]? = some z,
    fun i H => ∃ xs : List V, SqT K H a xs ∧ xs.length ≤ i⟩

theorem turn3 {P : Program} {w : World} {K : PySem.W.Frag} {tg : Expr} {a b c z ti to i1 i2 i3 : Addr} (D : Far3 z ti to i1 i2 i3 a b c) :
    Turn P w K tg (It3 K a b c) [z, ti, to, i1, i2, i3] z (fun i h => (∃ v f, Out v ∧ Zat h z ti to v (.bool f)) ∧ IsTupOf3 h ti (.ref i1) (.ref i2) (.ref i3) ∧ (∃ b1 b2 b3, IsTupOf3 h to b1 b2 b3) ∧
      h.IsTupleIter i1 a i ∧ h.IsTupleIter i2 b i ∧ h.IsTupleIter i3 c i) where
  mem := by simp
  obj := fun i h st q hq => by
    obtain ⟨⟨v, f, _, hz⟩, hI, ⟨b1, b2, b3, hO⟩, ⟨o1, e1, _, d1⟩, ⟨o2, e2, _, d2⟩, ⟨o3, e3, _, d3⟩⟩ := st
    have e' : q = z ∨ q = ti ∨ q = to ∨ q = i1 ∨ q = i2 ∨ q = i3 := by simpa using hq
    rcases e' with r | r | r | r | r | r
    · rw [r]; exact ⟨_, hz, fun v q => nomatch q⟩
    · rw [r]; exact ⟨_, hI, fun v q => nomatch q⟩
    · rw [r]; exact ⟨_, hO, fun v q => nomatch q⟩
    · rw [r]; exact ⟨o1, e1, fun v q => by rw [d1] at q; cases q⟩
    · rw [r]; exact ⟨o2, e2, fun v q => by rw [d2] at q; cases q⟩
    · rw [r]; exact ⟨o3, e3, fun v q => by rw [d3] at q; cases q⟩
  keep := fun i h h' st k => by
    obtain ⟨⟨v, f, ho, hz⟩, hI, ⟨b1, b2, b3, hO⟩, h1, h2, h3⟩ := st
    exact ⟨⟨v, f, ho, k z (by simp) _ hz⟩, k ti (by simp) _ hI, ⟨b1, b2, b3, k to (by simp) _ hO⟩, h1.at fun o q => k i1 (by simp) o q, h2.at fun o q => k i2 (by simp) o q, h3.at fun o q => k i3 (by simp) o q⟩
  item := by
    intro X hP hw hK hc i pins s σ H E I hf st hg
    subst hP hw hK
    obtain ⟨⟨v, f, ho, hz⟩, hI, ⟨b1, b2, b3, hO⟩, h1, h2, h3⟩ := st
    obtain ⟨xs, ys, zs, x, y, u, qx, qy, qu, hx, hy, hu⟩ := hg
    obtain ⟨t1, r1, p1, _⟩ := I.tuple qx
    obtain ⟨t2, r2, p2, _⟩ := I.tuple qy
    obtain ⟨t3, r3, p3, _⟩ := I.tuple qu
    obtain ⟨v1, g1, rv1⟩ := r1.get hx
    obtain ⟨v2, g2, rv2⟩ := r2.get hy
    obtain ⟨v3, g3, rv3⟩ := r3.get hu
    have zl : z < s.heap.objs.size := Heap.lt_size hz
    refine pyNext3 D ho hz hI hO ⟨⟨h1, p1⟩, ⟨h2, p2⟩, ⟨h3, p3⟩⟩ (x1 := v1) (x2 := v2) (x3 := v3) (by simpa using g1) (by simpa using g2) (by simpa using g3) fun h' v' f' c1 c2 c3 ho' hz' hO' st' hT hsz hk => ?_
    refine ⟨_, rfl, letGo3 (s := { s with heap := h' }) ho' hz' fun h'' v'' ho'' hz'' sb => ?_⟩
    have hT2 : h''.get? s.heap.objs.size = some { cls := .type "tuple", data := .seq #[v1, v2, v3] } := (sb.2 _ (Nat.ne_of_gt zl)).trans hT
    have new : ObjOk X.prog X.w (upd H s.heap.objs.size (.tup [x, y, u])) h'' s.heap.objs.size (.tup [x, y, u]) :=
      ⟨by show 3 ≤ sizeLine; decide, [v1, v2, v3], .cons rv1 (.cons rv2 (.cons rv3 .nil)), ⟨_, hT2, rfl, _, rfl⟩⟩
    have I1 : Inv X pins σ (upd H s.heap.objs.size (.tup [x, y, u])) { s with heap := h'' } :=
      I.turnedNew (t' := s.toks) (ch := [z, ti, to, i1, i2, i3]) (fun q o hb e => (sb.2 q (fun q' => hb (by simp [q']))).trans
        (hk q o (fun q' => hb (by simp [q'])) (fun q' => hb (by simp [q'])) (fun q' => hb (by simp [q'])) (fun q' => hb (by simp [q'])) (fun q' => hb (by simp [q'])) e)) hf (Nat.le_refl _) new
    refine ⟨.ref s.heap.objs.size, _, I1, rfl, ⟨_, x, y, u, rfl, I.hok.fresh (Nat.le_refl _), rfl, fun l hl => by rw [I.tuple_inj hl qx]; exact hx, fun l hl => by rw [I.tuple_inj hl qy]; exact hy, fun l hl => by rw [I.tuple_inj hl qu]; exact hu⟩,
      ⟨⟨v'', f', ho'', hz''⟩, ?_, ⟨c1, c2, c3, (sb.2 _ D.toz).trans hO'⟩, st'.1.1.at fun o q => (sb.2 _ D.z1).trans q, st'.2.1.1.at fun o q => (sb.2 _ D.z2).trans q, st'.2.2.1.at fun o q => (sb.2 _ D.z3).trans q⟩, fun q hq => ?_⟩
    · exact (sb.2 _ D.tiz).trans (hk _ _ D.tiz D.tito D.ti1 D.ti2 D.ti3 hI)
    · have lt : q < s.heap.objs.size := by
        have e' : q = z ∨ q = ti ∨ q = to ∨ q = i1 ∨ q = i2 ∨ q = i3 := by simpa using hq
        rcases e' with r | r | r | r | r | r
        · rw [r]; exact zl
        · rw [r]; exact Heap.lt_size hI
        · rw [r]; exact Heap.lt_size hO
        · rw [r]; obtain ⟨_, e1, _⟩ := h1; exact Heap.lt_size e1
        · rw [r]; obtain ⟨_, e1, _⟩ := h2; exact Heap.lt_size e1
        · rw [r]; obtain ⟨_, e1, _⟩ := h3; exact Heap.lt_size e1
      rw [upd_ne (Nat.ne_of_lt lt)]
      exact (hf q hq).1
  done := by
    intro X hP hw hK hc i pins s σ H E I hf st hg
    subst hP hw hK
    obtain ⟨⟨v, f, ho, hz⟩, hI, ⟨b1, b2, b3, hO⟩, h1, h2, h3⟩ := st
    obtain ⟨xs, qx, hlen⟩ := hg
    obtain ⟨t1, r1, p1, _⟩ := I.tuple qx
    have le := r1.length
    refine pyEnd3 (I.ok.hd hc) D ho hz hI ⟨h1, p1⟩ (by simp; omega) fun h' hk => ⟨rfl, I.turnedL (t' := s.toks) (ch := [z, ti, to, i1, i2, i3]) (fun q o hb e => ?_) hf⟩
    exact hk q o (fun q' => hb (by simp [q'])) (fun q' => hb (by simp [q'])) (fun q' => hb (by simp [q'])) (fun q' => hb (by simp [q'])) (fun q' => hb (by simp [q'])) e
  self := fun A i s Q E st h => by
    obtain ⟨⟨v, f, _, hz⟩, _⟩ := st
    exact iter3 hz h

theorem far_at (n a b c : Nat) (ha : a < n) (hb : b < n) (hc : c < n) : Far3 (n + 5) (n + 3) (n + 4) n (n + 1) (n + 2) a b c := by
  constructor <;> first | (show (_ : Nat) ≠ _; omega) | (refine ⟨?_, ?_, ?_, ?_, ?_⟩ <;> (show (_ : Nat) ≠ _; omega))

def iZip3 (K : PySem.W.Frag) (ta : TA) : TI := fun σ H R => ta σ H fun vs H1 => ∃ a b c xs ys zs, vs = [.ref a, .ref b, .ref c] ∧ SqT K H1 a xs ∧ SqT K H1 b ys ∧ SqT K H1 c zs ∧ R (It3 K a b c) H1
/-- zip(e, e2, e3), tuples of one length; any target -/
theorem pi_zip3 {X : Cx} {tg e e2 e3 : Expr} {ta : TA} {p pos : Pos} (hg : Gl X "zip") (hm : X.mg "zip" = none) (ha : PA X [e, e2, e3] ta)
    (hs : starEach [e, e2, e3] X.env = (false, eval e X.env) :: starEach [e2, e3] X.env := by rfl) (hpl : (backTo pos (starEach [e2, e3] X.env)).any (·.1) = false := by rfl) :
    PI X tg (.Call (.Name "zip" p) [e, e2, e3] [] pos) (iZip3 X.K ta) := by
  refine ⟨fun pins s σ H R I h => ?_⟩
  refine Call_ (ld_blt I hg hm PyProof.Rows.boot_zip (PyProof.Rows.callWith_type1 (thn (ha.run pos pins s σ H _ I h) fun us s1 q => ?_) hs hpl))
  obtain ⟨vs, H1, I1, r1, a, b, c, xs, ys, zs, ex, q1, q2, q3, q⟩ := q
  subst ex
  cases r1 with
  | cons ra rr =>
    cases rr with
    | cons rb rr =>
      cases rr with
      | cons rc rr =>
        cases rr
        cases ra
        cases rb
        cases rc
        obtain ⟨t1, r1, p1, _⟩ := I1.tuple q1
        obtain ⟨t2, r2, p2, _⟩ := I1.tuple q2
        obtain ⟨t3, r3, p3, _⟩ := I1.tuple q3
        obtain ⟨o1, g1, _⟩ := id p1
        obtain ⟨o2, g2, _⟩ := id p2
        obtain ⟨o3, g3, _⟩ := id p3
        refine zip_begins3 (begins_tuple a t1.toArray) (begins_tuple b t2.toArray) (begins_tuple c t3.toArray) p1 p2 p3 fun h' hz hI hO e1 e2 e3 hsz hk => iter3 hz ?_
        have I2 : Inv X pins σ H1 { s1 with heap := h' } := I1.kept (t' := s1.toks) hk
        refine ⟨s1.heap.objs.size + 5, [s1.heap.objs.size + 5, s1.heap.objs.size + 3, s1.heap.objs.size + 4, s1.heap.objs.size, s1.heap.objs.size + 1, s1.heap.objs.size + 2], _, _, H1, rfl, I2, turn3 (far_at s1.heap.objs.size a b c (Heap.lt_size g1) (Heap.lt_size g2) (Heap.lt_size g3)),
          ⟨⟨.none, false, .inl rfl, hz⟩, hI, ⟨_, _, _, hO⟩, ⟨_, e1, rfl, rfl⟩, ⟨_, e2, rfl, rfl⟩, ⟨_, e3, rfl, rfl⟩⟩, fun q hq => ?_, q⟩
        have le : s1.heap.objs.size ≤ q := by
          have e' : q = s1.heap.objs.size + 5 ∨ q = s1.heap.objs.size + 3 ∨ q = s1.heap.objs.size + 4 ∨ q = s1.heap.objs.size ∨ q = s1.heap.objs.size + 1 ∨ q = s1.heap.objs.size + 2 := by simpa using hq
          rcases e' with r | r | r | r | r | r <;> rw [r] <;> first | exact Nat.le_add_right _ _ | exact Nat.le_refl _
        exact I1.fpOk le (I1.hok.fresh le)

/-- a new triple of the i-th ones -/
def Y3 (xs ys zs : List V) : Nat → Hp → V → Hp → Prop := fun i H v H' => ∃ T x y z, v = .ref T ∧ H T = none ∧ H' = upd H T (.tup [x, y, z]) ∧ xs[i]? = some x ∧ ys[i]? = some y ∧ zs[i]? = some z
theorem walk_zip3 {K : PySem.W.Frag} {a b c : Addr} {xs ys zs : List V} (h2 : ys.length = xs.length) (h3 : zs.length = xs.length) :
    Walk (It3 K a b c) xs.length (fun H => SqT K H a xs ∧ SqT K H b ys ∧ SqT K H c zs) (Y3 xs ys zs) := by
  refine ⟨fun i _ hi q => ?_, fun _ q => ⟨xs, q.1, Nat.le_refl _⟩, fun i H v H' _ q y => ?_⟩
  · exact ⟨xs, ys, zs, xs[i], ys[i]'(by omega), zs[i]'(by omega), q.1, q.2.1, q.2.2, by simp [hi], by simp [show i < ys.length by omega], by simp [show i < zs.length by omega]⟩
  · obtain ⟨T, x, y, z, e1, e2, e3, f1, f2, f3⟩ := y
    exact ⟨T, x, y, z, e1, e2, e3, f1 xs q.1, f2 ys q.2.1, f3 zs q.2.2⟩
theorem walk_zipT {K : PySem.W.Frag} {a b : Addr} {xs ys : List V} (h2 : ys.length = xs.length) :
    Walk (RZ.ItzT K a b) xs.length (fun H => SqT K H a xs ∧ SqT K H b ys) (YPair (fun i => xs[i]?) (fun i => ys[i]?)) := by
  refine ⟨fun i _ hi q => ?_, fun _ q => ⟨xs, ys, q.1, q.2, by omega⟩, fun i H v H' _ q y => ?_⟩
  · exact ⟨xs, ys, xs[i], ys[i]'(by omega), q.1, q.2, by simp [hi], by simp [show i < ys.length by omega]⟩
  · obtain ⟨T, x, u, e1, e2, e3, f1, f2⟩ := y
    exact ⟨T, x, u, e1, e2, e3, f1 xs q.1, f2 ys q.2⟩
end NB

set_option Elab.async false
set_option linter.all false
set_option maxRecDepth 100000
set_option maxHeartbeats 1000000
namespace NB
open PySem PySem.Spec PyProof.Rows L2

/-- the law's own call, its def kept to its promise where nothing is being shown -/
theorem law_end {P : Program} {w : World} {K : PySem.W.Frag} {mg mb : Str → Option Value} {k : Nat} {fa a : Addr} {fd : FuncData} {x : Str} {sp : Sp} {s : Shared} {vs : List Value} {ns : List Int}
    (hK : K.In s.heap) (hN : s.heap.Ns mainGlobals mg) (hB : s.heap.Ns builtinsNs mb) (hbb : ∀ x : Str, x ≠ "__name__" → mb x = bootBuiltins x) (lim : s.heap.NoLimit) (hg : s.gens = #[])
    (ha : s.heap.get? a = some { cls := .type "list", data := .seq vs.toArray }) (hi : IntsAre vs ns) (hl : ns.length ≤ sizeLine) (hr : Room k callerA)
    (F : ∀ base : Heap, K.In base → base.Ns mainGlobals mg → FnG P w K mg base k fa fd [x] sp) (hb : ∀ (s : Shared) (u : Value), BindsTo s fd ⟨[u], []⟩ [(x, u)])
    (hsp : ∀ H : Hp, SqL K H a (ns.map V.int) → sp [.ref a] H (fun v _ => v = .bl true) E0) :
    codeAny (model P w) callerA (.call (.ref fa) ⟨[.ref a], []⟩) (fun r s' => r = .ok (.ret (.bool true)) ∧ OldK s.heap s'.heap ∧ s'.os = s.os ∧ AllBare s'.gens) s := by
  have rv := vals_ints hi
  have lv := hi.length
  -- H: the script alone is tracked, or nothing
  suffices go : ∀ H : Hp, (∀ b, H b ≠ none → b = a ∧ K.lookup a = none ∧ ∃ o xs, H b = some (.frz o (.lst xs))) → SqL K H a (ns.map V.int) → HOk P w H s.heap →
      codeAny (model P w) callerA (.call (.ref fa) ⟨[.ref a], []⟩) (fun r s' => r = .ok (.ret (.bool true)) ∧ OldK s.heap s'.heap ∧ s'.os = s.os ∧ AllBare s'.gens) s by
    cases hk : K.lookup a with
    | some o =>
      have e := hK a o hk
      rw [ha] at e
      cases e
      refine go (fun _ => none) (fun b q => absurd rfl q) (.inr ⟨_, vs.toArray, _, hk, rfl, rfl, rfl, ?_, by simpa using rv⟩) (fun b u q => by cases (show (none : Option HO) = some u from q))
      rw [List.size_toArray, lv]
      exact hl
    | none =>
      refine go (fun b => if b = a then some (.frz { cls := .type "list", data := .seq vs.toArray } (.lst (ns.map V.int))) else none) (fun b q => ?_) (.inl (.inr ⟨_, if_pos rfl⟩)) (fun b u q => ?_)
      · by_cases h : b = a
        · exact ⟨h, hk, _, _, if_pos h⟩
        · exact absurd (if_neg h) q
      · by_cases h : b = a
        · have q' := (if_pos h).symm.trans q
          cases q'
          subst h
          exact ⟨ha, by rw [List.length_map]; exact hl, vs, _, rv, ha⟩
        · have q' := (if_neg h).symm.trans q
          cases q'
  intro H hO hS ok
  have dictFree : ∀ {b : Addr} {o : Obj} {es : Array DictEntry} {ep : Nat}, s.heap.get? b = some o → o.data = .dict es ep → H b = none := by
    intro b o es ep e d
    cases q : H b with
    | none => rfl
    | some u =>
      obtain ⟨e', _⟩ := hO b (by rw [q]; simp)
      subst e'
      rw [ha] at e
      cases e
      cases (show Data.seq vs.toArray _ = Data.dict es ep from d)
  have ns' : ∀ {b : Addr} {m : Str → Option Value}, s.heap.Ns b m → (hidT s.heap H).Ns b m := by
    rintro b m ⟨o, es, ep, e, d, r⟩
    exact ⟨o, es, ep, hidT_get e (dictFree e d), d, r⟩
  have kB : K.In (hidT s.heap H) := by
    intro b o e
    refine hidT_get (hK b o e) ?_
    cases q : H b with
    | none => rfl
    | some u =>
      obtain ⟨e', n, _⟩ := hO b (by rw [q]; simp)
      subst e'
      rw [n] at e
      cases e
  have md : Mod K mg (hidT s.heap H) := by
    obtain ⟨mc, h1, h2⟩ := lim
    exact ⟨kB, ns' hN, ⟨mb, ns' hB, hbb⟩, ⟨mc, ns' h1, h2⟩⟩
  have e0 : Env0 P w K mg (hidT s.heap H) callerA [] s H :=
    ⟨rfl, md, fun b o e => of_hidT e, Nat.le_of_eq (hidT_size _ _), trivial, fun b q => absurd (show b ∈ ([] : List Addr) from q) (by simp), ok, .of_eq hg⟩
  refine codeAny_mono ((F _ kB (ns' hN)).go callerA [] s H ⟨[.ref a], []⟩ [.ref a] [.ref a] _ _ rfl hr e0 (hb s (.ref a)) (.cons rfl .nil) (hsp H hS)) ?_
  intro r s' q
  cases r with
  | error e => exact False.elim q
  | ok fl =>
    cases fl with
    | next => exact False.elim q
    | brk => exact False.elim q
    | cont => exact False.elim q
    | ret u =>
      obtain ⟨v, H', os, bare, un, ok', r', q'⟩ := q
      have q2 : v = .bl true := q'
      subst q2
      obtain rfl : u = Value.bool true := r'
      refine ⟨rfl, OldK.of_keep fun b o e => ?_, os, bare⟩
      cases q : H b with
      | none => exact un.keep b o e q (fun z => absurd (show b ∈ ([] : List Addr) from z) (by simp)) (by simp)
      | some u =>
        obtain ⟨_, _, ob, xs, z⟩ := hO b (by rw [q]; simp)
        obtain ⟨e1, _⟩ := ok b _ z
        obtain ⟨e2, _⟩ := ok' b _ (un.frzs b ob _ z)
        rw [e] at e1
        cases e1
        exact e2

/-- what k_head leaves, from the promise of the law's def -/
theorem walkG {l : PySem.W.OpenLaw} {n k : Nat} {q : Program} {loose : List Str} {XP : (Str → Option Value) → Heap → Prop} {YP : World → Heap → Prop} {d : DefRec} {K : Params → PySem.W.Frag} {sp : World → Sp} {x : Str}
    (hn : l.most = some n) (hn2 : n ≤ sizeLine) (hdf : d.params.defaults = []) (hr : Room k callerA) (hY : ∀ (w : World) (h : Heap), YP w h → (K w.params).In h)
    (F : ∀ (w : World) (mg : Str → Option Value) (fa : Addr) (h : Heap), (K w.params).In h → h.Ns mainGlobals mg → mg d.name = some (.ref fa) →
      ∃ fd : FuncData, (∀ (s : Shared) (u : Value), BindsTo s fd ⟨[u], []⟩ [(x, u)]) ∧
        ∀ base : Heap, (K w.params).In base → base.Ns mainGlobals mg → FnG l.prog w (K w.params) mg base k fa fd [x] (sp w))
    (hsp : ∀ (w : World) (H : Hp) (a : Addr) (ns : List Int), ns.length ≤ n → SqL (K w.params) H a (ns.map V.int) → sp w [.ref a] H (fun v _ => v = .bl true) E0) :
    PySem.W.WalkO q loose XP YP l.row.toRowW d [] (fun f vs => PySem.call f vs) := by
  refine Att.attach_call hn hdf ?_
  intro w s₀ s₁ mg mb fa o pm cd doc a vs ns G Y ho hd hcd hmg hobj hints hlen hg
  have kX := hY w _ Y
  obtain ⟨fd, hb, hF⟩ := F w mg fa _ kX G.T.g hmg
  exact law_end kX G.T.g G.T.b G.T.builtins G.T.nolimit hg hobj hints (Nat.le_trans hlen hn2) hr hF hb fun H hS => hsp w H a ns hlen hS
end NB

set_option Elab.async false
set_option linter.all false
set_option maxRecDepth 100000
set_option maxHeartbeats 1000000
namespace NB
open PySem PySem.Spec PyProof.Rows L2
section
variable {prog : Program} {w : World} {A : Around} {E : Value → Shared → Prop} {s : Shared}
theorem sortedTuple {t : Addr} {vs : List Value} {ns : List Int} {Q : Value → Shared → Prop} (hl : s.heap.IsTuple t vs.toArray) (hI : IntsAre vs ns) (h64 : vs.length < 64)
    (h : ∀ (h1 h' : Heap) (p : Addr) (out : Array Value) (ep : Nat) (ns' : List Int), IntsAre out.toList ns' → ns'.Perm ns → ns'.Pairwise (· ≤ ·) → (∀ b o, s.heap.get? b = some o → h1.get? b = some o) → (∀ b o, h1.get? b = some o → h'.get? b = some o) → h1.objs.size ≤ p →
      h'.get? p = some (seqObj "list" out ep) → Q (.ref p) { s with heap := h' }) :
    wpAny (model prog w) A (call (.builtin "sorted") [.ref t]) Q E s := by
  obtain ⟨o, ho, hc, n, hd⟩ := hl
  refine Calls.call_function_entry kind_sorted plain_sorted entry_sorted (args_sorted1 _) ?_
  unfold Builtin.«sorted»
  refine wpAny_bind (m := checkCount "sorted" 1 1 _) (wpAny_pure ?_)
  refine wpAny_bind (wpAny_collect_seq t (.inr rfl) ho hc hd (fun h1 hk => ?_) (by rw [List.size_toArray, sizeLine_eq]; omega))
  refine wpAny_bind (wpAny_newList ?_)
  have e0 : (vs.toArray.toList) = vs := rfl
  have hoL : (h1.push (seqObj "list" vs.toArray 0)).get? h1.objs.size = some (seqObj "list" vs.toArray 0) := Heap.get?_push_size _ rfl
  show wpAny _ _ _ _ _ { s with heap := h1.push (seqObj "list" vs.toArray 0) }
  refine wpAny_bind (wpAny_holding (wpAny_call_entry slot_list_sort ⟨_, hoL, rfl⟩ entry_list_sort (list_sort_tree hoL hI h64 fun out ns' q1 q2 q3 => ⟨_, rfl, ?_⟩) (args_list_sort _)))
  refine wpAny_pure ⟨_, rfl, ?_⟩
  obtain ⟨ep, hat⟩ := sortedHeap_at (vs := vs) (out := out) hoL
  refine h h1 _ h1.objs.size out ep ns' q1 q2 q3 hk (fun b o q => ?_) (Nat.le_refl _) hat
  have lt := Heap.lt_size q
  rw [sortedHeap_old (Nat.ne_of_lt lt) (by rw [size_push']; exact Nat.lt_succ_of_lt lt)]
  exact Heap.get?_push_of_some _ q
end
section
variable {X : Cx}
/-- sorted(t), t a tuple of few ints -/
def rSortT (K : PySem.W.Frag) : List V → Hp → VK → Prop := fun vs H Q => ∃ (a : Addr) (ns : List Int), vs = [V.ref a] ∧ SqT K H a (ns.map V.int) ∧ ns.length < 64 ∧
  ∀ (ns' : List Int) (p : Addr), ns'.Perm ns → ns'.Pairwise (· ≤ ·) → H p = none → Q (.ref p) (upd H p (.lst (ns'.map V.int)))
theorem cr_sortT : CallR X (.builtin "sorted") (rSortT X.K) := by
  intro pins s σ H vs us Q I r h
  obtain ⟨a, ns, rfl, hs, h64, q⟩ := h
  obtain ⟨its, rv, hl, _⟩ := I.tuple hs
  rw [Vals.ref1 r]
  have hi := rv.ints
  refine sortedTuple hl hi (by rw [hi.length]; exact h64) fun h1 h' p out ep ns' q1 q2 q3 k1 k2 hp hat => ?_
  have I1 : Inv X pins σ H { s with heap := h1 } := I.kept (t' := s.toks) k1
  have hlen : (ns'.map V.int).length ≤ sizeLine := by rw [List.length_map, q2.length_eq]; exact small64 h64
  exact ⟨.ref p, upd H p (.lst (ns'.map V.int)), I1.laid (t' := s.toks) k2 hp ⟨hlen, out.toList, ep, vals_of_ints q1, hat⟩, rfl, q ns' p q2 q3 (I1.hok.fresh hp)⟩

theorem perm_sum {l l' : List Int} (h : l.Perm l') : l.sum = l'.sum := by
  induction h with
  | nil => rfl
  | cons x _ ih => simp only [List.sum_cons, ih]
  | swap x y l => simp only [List.sum_cons]; omega
  | trans _ _ i1 i2 => exact i1.trans i2
/-- the middle one of three -/
def mid3 (a b c : Int) : Int := if a ≤ b then (if b ≤ c then b else if a ≤ c then c else a) else (if a ≤ c then a else if b ≤ c then c else b)
theorem mid_of_sorted {a b c x y z : Int} (p : [x, y, z].Perm [a, b, c]) (s : [x, y, z].Pairwise (· ≤ ·)) : y = mid3 a b c := by
  have h1 : x ≤ y ∧ y ≤ z := by
    rw [List.pairwise_cons, List.pairwise_cons] at s
    exact ⟨s.1 y (by simp), s.2.1 z (by simp)⟩
  have ha : a ∈ [x, y, z] := p.symm.subset (by simp)
  have hb : b ∈ [x, y, z] := p.symm.subset (by simp)
  have hc : c ∈ [x, y, z] := p.symm.subset (by simp)
  have hs : x + y + z = a + b + c := by
    have e := perm_sum p
    simp only [List.sum_cons, List.sum_nil] at e
    omega
  simp only [List.mem_cons, List.not_mem_nil, or_false] at ha hb hc
  unfold mid3
  rcases ha with e | e | e <;> rcases hb with f | f | f <;> rcases hc with g | g | g <;> split <;> split <;> (try split) <;> omega
theorem max3 (hc : X.calm = true) : CallR X (.builtin "max") (fun xs H Q => ∃ i j k : Int, xs = [.int i, .int j, .int k] ∧ Q (.int (max (max i j) k)) H) := by
  intro pins s σ H xs us Q I r h
  obtain ⟨i, j, k, rfl, q⟩ := h
  refine call_max3Nu hc pins s σ H _ us Q I r ⟨_, _, _, _, rfl, ?_, q⟩
  have two : ∀ a b : Int, nuMax2 (.int a) (.int b) = some (.int (max a b)) := fun a b => by
    show some (if decide (a < b) = true then V.int b else V.int a) = _
    by_cases h : a < b
    · rw [if_pos (decide_eq_true h), Int.max_eq_right (Int.le_of_lt h)]
    · rw [if_neg (by simpa using h), Int.max_eq_left (by omega)]
  show (nuMax2 (.int i) (.int j)).bind (fun m => nuMax2 m (.int k)) = _
  rw [two]
  exact two _ _
theorem min3 (hc : X.calm = true) : CallR X (.builtin "min") (fun xs H Q => ∃ i j k : Int, xs = [.int i, .int j, .int k] ∧ Q (.int (min (min i j) k)) H) := by
  intro pins s σ H xs us Q I r h
  obtain ⟨i, j, k, rfl, q⟩ := h
  refine call_min3Nu hc pins s σ H _ us Q I r ⟨_, _, _, _, rfl, ?_, q⟩
  have two : ∀ a b : Int, nuMin2 (.int a) (.int b) = some (.int (min a b)) := fun a b => by
    show some (if decide (b < a) = true then V.int b else V.int a) = _
    by_cases h : b < a
    · rw [if_pos (decide_eq_true h), Int.min_eq_right (Int.le_of_lt h)]
    · rw [if_neg (by simpa using h), Int.min_eq_left (by omega)]
  show (nuMin2 (.int i) (.int j)).bind (fun m => nuMin2 m (.int k)) = _
  rw [two]
  exact two _ _
/-- a ** b: the result within 2 ^ 27 bits -/
def CPowW (i j : Int) : Prop := 0 ≤ j ∧ (Builtin.Int.intBits i : Int) * j ≤ 2 ^ 27
theorem op_powW : OpR X (binaryOp .Pow) (rI CPowW fun i j => .int (i ^ j.toNat)) := opI fun _ _ _ _ _ _ _ hc q => pow_int hc.1 hc.2 q
end
end NB

set_option Elab.async false
set_option linter.all false
set_option maxRecDepth 100000
set_option maxHeartbeats 1000000
/-! enumerate of a tuple -/
namespace NB
open PySem PySem.Spec PyProof.Rows L2

theorem enumNewT (l : Addr) (items : Array Value) : Meets (Builtin.«enumerate.__new__» ⟨[.type "enumerate", .ref l], []⟩) (fun _ R s => s.heap.IsTuple l items ∧
      R (.ok (.ret (.ref (s.heap.push { cls := .type "tuple_iterator", data := .fields #[.ref l, .int 0 0] }).objs.size)))
        { s with heap := (s.heap.push { cls := .type "tuple_iterator", data := .fields #[.ref l, .int 0 0] }).push { cls := .type "enumerate", data := .fields #[.none, .bool false, .ref s.heap.objs.size, rawInt 0, .none, .none] } }) :=
  .of_wp fun prog w A R s h => by
    obtain ⟨hp, g, d, tk, os⟩ := s
    obtain ⟨hl, h⟩ := h
    have hsub := sub_enumerate
    have hL : Heap.IsTuple (Shared.heap ⟨hp, g, d, tk, os⟩) l items := hl
    wp_walk
    refine wpAny_stack_any fun st => wpAny_pure ?_
    split
    · rename_i c _ _ _ _ _
      cases (c == Value.type "enumerate")
      · wp_walk using wpAny_pyIter_tuple hL
        exact ⟨_, rfl, h⟩
      · wp_walk using wpAny_pyIter_tuple hL
        exact ⟨_, rfl, h⟩
    · wp_walk using wpAny_pyIter_tuple hL
      exact ⟨_, rfl, h⟩
section
variable {prog : Program} {w : World} {A : Around} {E : Value → Shared → Prop} {s : Shared}
theorem enumT {l : Addr} {items : Array Value} {Q : Value → Shared → Prop} (hL : s.heap.IsTuple l items)
    (h : ∀ h', IsEnum h' (s.heap.objs.size + 1) s.heap.objs.size 0 .none → h'.IsTupleIter s.heap.objs.size l 0 → (∀ b o, s.heap.get? b = some o → h'.get? b = some o) → Q (.ref (s.heap.objs.size + 1)) { s with heap := h' }) :
    wpAny (model prog w) A (call (.type "enumerate") [.ref l]) Q E s := by
  refine callType_new F.called_enumerate (by decide) (F.typeCall_enumerate_1 _) (F.newCall_enumerate_1 _) (fun obj => F.args_object_init_2 obj _) F.entry_enumerate_new (enumNewT l items) ⟨hL, ?_⟩
  have z : (s.heap.push { cls := .type "tuple_iterator", data := .fields #[.ref l, .int 0 0] }).objs.size = s.heap.objs.size + 1 := Heap.size_push ..
  have he := Heap.get?_push_size (s.heap.push { cls := .type "tuple_iterator", data := .fields #[.ref l, .int 0 0] }) (o := { cls := .type "enumerate", data := .fields #[.none, .bool false, .ref s.heap.objs.size, rawInt 0, .none, .none] }) rfl
  show _ ∧ _
  rw [z] at he ⊢
  exact ⟨⟨_, he, rfl⟩, h _ he ⟨_, Heap.get?_push_of_some _ (Heap.get?_push_size _ rfl), rfl, rfl⟩ fun b o x => Heap.get?_push_of_some _ (Heap.get?_push_of_some _ x)⟩
end
/-- a tuple's items with their numbers, in new pairs -/
def ItE (K : PySem.W.Frag) (a : Addr) : It :=
  ⟨fun i H => ∃ (xs : List V) (x : V), SqT K H a xs ∧ xs[i]? = some x,
    fun i H v H' => ∃ T x, v = .ref T ∧ H T = none ∧ H' = upd H T (.tup [.int (i : Nat), x]) ∧ ∀ xs, SqT K H a xs → xs[i]? = some x,
    fun i H => ∃ xs : List V, SqT K H a xs ∧ xs.length = i⟩
theorem turnE {P : Program} {w : World} {K : PySem.W.Frag} {elts : List Expr} {kk : Nat} {tpos : Pos} (a e it : Addr) (n1 : e ≠ it) (n2 : a ≠ it) (n3 : e ≠ a) :
    Turn P w K (.Tuple elts kk tpos) (ItE K a) [e, it] e (fun i h => (∃ old, IsEnum h e it ((i : Nat) : Int) old) ∧ h.IsTupleIter it a i) where
  mem := by simp
  obj := fun i h st b hb => by
    obtain ⟨⟨old, he⟩, ⟨o, ho, hc, hd⟩⟩ := st
    have e' : b = e ∨ b = it := by simpa using hb
    rcases e' with z | z
    · rw [z]; exact ⟨_, he, fun v q => nomatch q⟩
    · rw [z]; exact ⟨o, ho, fun v q => by rw [hd] at q; cases q⟩
  keep := fun i h h' st k => by
    obtain ⟨⟨old, he⟩, hi⟩ := st
    exact ⟨⟨old, k e (by simp) _ he⟩, hi.at fun o q => k it (by simp) o q⟩
  item := by
    intro X hP hw hK hc i pins s σ H E I hf st hg
    subst hP hw hK
    obtain ⟨⟨old, he⟩, hit⟩ := st
    obtain ⟨xs, x, hq, hx⟩ := hg
    obtain ⟨its, rv, p, hz⟩ := I.tuple hq
    obtain ⟨u, hu, ru⟩ := rv.get hx
    have hel : e < s.heap.objs.size := Heap.lt_size he
    have hil : it < s.heap.objs.size := by obtain ⟨_, q, _⟩ := hit; exact Heap.lt_size q
    have lt : i < its.toArray.size := by
      have : i < its.length := by
        rcases Nat.lt_or_ge i its.length with q | q
        · exact q
        · rw [List.getElem?_eq_none q] at hu
          cases hu
      simpa using this
    have hD := I.ok.hd hc
    refine wpAny_pyNext_enum_itemD (Draws.tuple (A := X.A.in1) hD it a n2 its.toArray) he ⟨hit, p⟩ lt n1 (by simp; exact ⟨n1, n3⟩) fun y h' tk hy ho st' hT hsz hk => ?_
    have ey : y = u := by
      have q : its.toArray[i]? = some u := by simpa using hu
      exact Option.some.inj (hy.symm.trans q)
    subst ey
    refine ⟨_, rfl, wpAny_letOwnedTupleGo_enum (s := { s with heap := h', toks := tk + 1 }) ho fun h'' he' sb => ?_⟩
    have hT2 : h''.get? s.heap.objs.size = some { cls := .type "tuple", data := .seq #[.int i tk, y] } := (sb.2 _ (Nat.ne_of_gt hel)).trans hT
    have new : ObjOk X.prog X.w (upd H s.heap.objs.size (.tup [.int (i : Nat), x])) h'' s.heap.objs.size (.tup [.int (i : Nat), x]) :=
      ⟨by show 2 ≤ sizeLine; decide, [.int i tk, y], .cons ⟨_, rfl⟩ (.cons ru .nil), ⟨_, hT2, rfl, _, rfl⟩⟩
    have I1 : Inv X pins σ (upd H s.heap.objs.size (.tup [.int (i : Nat), x])) { s with heap := h'', toks := tk + 1 } :=
      I.turnedNew (ch := [e, it]) (fun b ob hb q => (sb.2 b (fun z => hb (by simp [z]))).trans (hk b ob (fun z => hb (by simp [z])) (fun z => hb (by simp [z])) q)) hf (Nat.le_refl _) new
    refine ⟨.ref s.heap.objs.size, _, I1, rfl, ⟨_, x, rfl, I.hok.fresh (Nat.le_refl _), rfl, fun ys hy => by rw [I.tuple_inj hy hq]; exact hx⟩, ⟨⟨y, ?_⟩, st'.1.at fun o q => (sb.2 it n1.symm).trans q⟩, fun b hb => ?_⟩
    · rw [show ((i + 1 : Nat) : Int) = (i : Int) + 1 by omega]
      exact he'
    · have hb' : b < s.heap.objs.size := by
        have e' : b = e ∨ b = it := by simpa using hb
        rcases e' with z | z
        · rw [z]; exact hel
        · rw [z]; exact hil
      rw [upd_ne (Nat.ne_of_lt hb')]
      exact (hf b hb).1
  done := by
    intro X hP hw hK hc i pins s σ H E I hf st hg
    subst hP hw hK
    obtain ⟨⟨old, he⟩, hit⟩ := st
    obtain ⟨xs, hq, hx⟩ := hg
    obtain ⟨its, rv, p, hz⟩ := I.tuple hq
    obtain ⟨f0, f1, f2, f3, f4, f5⟩ := hf it (by simp)
    have le : i = its.toArray.size := by
      have := rv.length
      simp
      omega
    subst le
    exact wpAny_pyNext_enum_endD (Draws.tuple (A := X.A.in1) (I.ok.hd hc) it a n2 its.toArray) he ⟨hit, p⟩ fun h' eb => ⟨rfl, I.turned (t' := s.toks) (fun b o hb q => eb b o hb q) f0 f1 f3 f4 f5⟩
  self := fun A i s Q E st h => by
    obtain ⟨⟨_, he⟩, _⟩ := st
    exact wpAny_pyIter_enum he h
def iEnumT (K : PySem.W.Frag) (ta : TA) : TI := fun σ H R => ta σ H fun vs H1 => ∃ a xs, vs = [.ref a] ∧ SqT K H1 a xs ∧ R (ItE K a) H1
theorem pi_enumT {X : Cx} {e : Expr} {ta : TA} {p pos tpos : Pos} {elts : List Expr} {kk : Nat} (hg : Gl X "enumerate") (hm : X.mg "enumerate" = none) (ha : PA X [e] ta) (hs : starEach [e] X.env = [(false, eval e X.env)] := by rfl) :
    PI X (.Tuple elts kk tpos) (.Call (.Name "enumerate" p) [e] [] pos) (iEnumT X.K ta) := by
  refine ⟨fun pins s σ H R I h => ?_⟩
  refine Call_ (ld_blt I hg hm boot_enumerate (PyProof.Rows.callWith_type1 (thn (ha.run pos pins s σ H _ I h) ?_) hs rfl))
  rintro us s1 ⟨vs, H1, I1, r1, a, xs, ex, hq, q⟩
  subst ex
  cases r1 with
  | cons r rr =>
    cases rr
    cases r
    obtain ⟨its, rv, p', hz⟩ := I1.tuple hq
    obtain ⟨o, g, _⟩ := id p'
    have la : a < s1.heap.objs.size := Heap.lt_size g
    refine enumT (items := its.toArray) p' fun h' he hit hk => wpAny_pyIter_enum he ?_
    have I2 : Inv X pins σ H1 { s1 with heap := h' } := I1.kept (t' := s1.toks) hk
    refine ⟨s1.heap.objs.size + 1, [s1.heap.objs.size + 1, s1.heap.objs.size], _, _, H1, rfl, I2, turnE a (s1.heap.objs.size + 1) s1.heap.objs.size (Nat.succ_ne_self _) (Nat.ne_of_lt la) (Nat.ne_of_gt (Nat.lt_succ_of_lt la)), ⟨⟨.none, he⟩, hit⟩, fun b hb => ?_, q⟩
    have e' : b = s1.heap.objs.size + 1 ∨ b = s1.heap.objs.size := by simpa using hb
    have hle : s1.heap.objs.size ≤ b := by
      rcases e' with z | z
      · rw [z]; exact Nat.le_add_right _ _
      · rw [z]; exact Nat.le_refl _
    exact I1.fpOk hle (I1.hok.fresh hle)
theorem walk_enumT {K : PySem.W.Frag} {a : Addr} {xs : List V} : Walk (ItE K a) xs.length (fun H => SqT K H a xs) (YPair (fun i => some (.int (i : Nat))) (fun i => xs[i]?)) := by
  refine ⟨fun i _ hi q => ⟨xs, xs[i], q, by simp [hi]⟩, fun _ q => ⟨xs, q, rfl⟩, fun i H v H' _ q y => ?_⟩
  obtain ⟨T, x, h1, h2, h3, h4⟩ := y
  exact ⟨T, .int (i : Nat), x, h1, h2, h3, rfl, h4 xs q⟩
end NB

set_option Elab.async false
set_option linter.all false
set_option maxRecDepth 100000
/-! t[::-1] of a tuple; repr of a truth. -/
namespace NB
open PySem PySem.Spec PyProof.Rows L2 HT

section
variable {prog : Program} {w : World} {A : Around} {E : Value → Shared → Prop} {s : Shared}
theorem adjust_back (n : Nat) : Builtin.Slice.sliceAdjust none none (-1) (n : Int) = ((n : Int) - 1, -1) := by
  unfold Builtin.Slice.sliceAdjust
  first
  | rfl
  | simp
theorem places_back (n : Nat) : Builtin.Slice.slicePlaces ((n : Int) - 1) (-1) (-1) = n := by
  unfold Builtin.Slice.slicePlaces
  have h1 : ¬ ((-1 : Int) > 0) := by decide
  simp only [h1, if_false]
  split <;> simp <;> omega
theorem sliceBack {sl : Addr} {vl vu vk : Value} {n : Nat} {Q : Int × Int × Nat → Shared → Prop} (hs : s.heap.IsSliceOf sl vl vu vk) (pl : IsPart vl none) (pu : IsPart vu none) (pk : IsPart vk (some (-1)))
    (h : Q ((n : Int) - 1, -1, n) s) : wpAny (model prog w) A (Builtin.Slice.sliceApplied (.ref sl) (pure (n : Int))) Q E s := by
  obtain ⟨os, hos, hcs, hds⟩ := id hs
  unfold Builtin.Slice.sliceApplied Builtin.Slice.sliceFields
  refine wpAny_bind (wpAny_bind (wpAny_field hos hds (x := vl) rfl (wpAny_bind (wpAny_field hos hds (x := vu) rfl (wpAny_bind (wpAny_field hos hds (x := vk) rfl (wpAny_pure ?_)))))))
  refine wpAny_bind (slicePart_ pk ?_)
  show wpAny _ _ (if ((-1 : Int) == 0) = true then _ else _) _ _ s
  rw [if_neg (by decide)]
  refine wpAny_bind (slicePart_ pl (wpAny_bind (slicePart_ pu (wpAny_bind (wpAny_pure ?_)))))
  show wpAny _ _ (match Builtin.Slice.sliceAdjust none none (-1) (n : Int) with | (lo, hi) => pure (lo, (-1 : Int), Builtin.Slice.slicePlaces lo hi (-1))) _ _ s
  rw [adjust_back n]
  show wpAny _ _ (pure ((n : Int) - 1, (-1 : Int), Builtin.Slice.slicePlaces ((n : Int) - 1) (-1) (-1))) _ _ s
  rw [places_back]
  exact wpAny_pure h
theorem pick_back (xs : Array Value) : ((List.range xs.size).filterMap fun (m : Nat) => xs[(((xs.size : Int) - 1) + (m : Int) * -1).toNat]?).toArray = xs.toList.reverse.toArray := by
  have e : ((List.range xs.size).filterMap fun (m : Nat) => xs[(((xs.size : Int) - 1) + (m : Int) * -1).toNat]?) = ((List.range xs.size).map fun k => xs.size - 1 - k).filterMap (xs[·]?) := by
    rw [List.filterMap_map]
    congr 1
    funext m
    have : (((xs.size : Int) - 1) + (m : Int) * -1).toNat = xs.size - 1 - m := by omega
    rw [this]
    rfl
  rw [e, PySem.W.krv_range, List.filterMap_reverse, PySem.W.krv_all]
theorem getItem_tuple_back {t sl : Addr} {items : Array Value} {vl vu vk : Value} {Q : Value → Shared → Prop} (ht : IsTup s.heap t items) (hs : s.heap.IsSliceOf sl vl vu vk) (pl : IsPart vl none) (pu : IsPart vu none) (pk : IsPart vk (some (-1)))
    (h : Q (.ref s.heap.objs.size) { s with heap := s.heap.push { cls := .type "tuple", data := .seq items.toList.reverse.toArray } })
    (hsz : items.size ≤ sizeLine) : wpAny (model prog w) A (getItem (.ref t) (.ref sl)) Q E s := by
  have htake : sizeOk (.seq items.toList.reverse.toArray) := by
    show items.toList.reverse.toArray.size ≤ sizeLine
    rw [List.size_toArray, List.length_reverse, Array.length_toList]
    exact hsz
  obtain ⟨os, hos, hcs, hds⟩ := id hs
  have hTs : s.TypeIs (.ref sl) "slice" := ⟨os, hos, hcs⟩
  unfold getItem
  try with_reducible refine wpAny_holding ?_
  first | refine wpAny_bind (wpAny_pure ?_) | skip
  refine wpAny_bind (wpAny_sequenceKey ht.typeIs (by decide) ?_)
  refine wpAny_bind (wpAny_callSpecial?_slot (name := Str.ofString "__getitem__") ht.typeIs PyProof.Rows.slot_tuple_getitem
    (wpAny_call_entry PyProof.Rows.slot_tuple_getitem ht.typeIs entry_tuple_getitem ?_ (args_tuple_getitem _ _)))
  show wpAny _ _ (Builtin.Tuple.tupleItemsOf (.ref t) >>= _) _ _ s
  refine wpAny_bind (tupleItemsOf_ ht ?_)
  refine wpAny_bind (wpAny_typeOf hTs ?_)
  rw [if_pos (by decide)]
  refine wpAny_bind (sliceBack hs pl pu pk ?_)
  have hno : ¬ ((((items.size : Int) - 1) == 0 && (-1 : Int) == 1 && items.size == items.size) = true) := by
    intro q
    rw [Bool.and_eq_true, Bool.and_eq_true] at q
    exact absurd q.1.2 (by decide)
  show wpAny _ _ (if (((items.size : Int) - 1) == 0 && (-1 : Int) == 1 && items.size == items.size) = true then _ else _) _ _ s
  rw [if_neg hno, pick_back]
  first
    | exact wpAny_bind (m := Builtin.Tuple.tupleExact _) (wpAny_newObj_type (wpAny_pure ⟨_, rfl, wpAny_pure h⟩) htake)
    | exact wpAny_bind (m := Builtin.Tuple.tupleExact _) (wpAny_newObj_type (wpAny_bind (wpAny_pure (wpAny_pure ⟨_, rfl, wpAny_pure h⟩))) htake)
    | exact wpAny_bind (wpAny_bind (m := Builtin.Tuple.tupleExact _) (wpAny_newObj_type (wpAny_pure (wpAny_pure ⟨_, rfl, wpAny_pure h⟩)) htake))
    | exact wpAny_bind (wpAny_bind (m := Builtin.Tuple.tupleExact _) (wpAny_newObj_type (wpAny_pure ⟨_, rfl, wpAny_pure h⟩) htake))
end

section
variable {X : Cx}
def tRevT (K : PySem.W.Frag) (te : TE) : TE := fun σ H Q => te σ H fun x H1 => ∃ a xs, x = .ref a ∧ SqT K H1 a xs ∧ ∀ p, H1 p = none → Q (.ref p) (upd H1 p (.tup xs.reverse))
theorem pe_revT {e : Expr} {te : TE} {k : Nat} {p1 p2 p3 pos : Pos} (he : PE X e te) : PE X (.Subscript e (.Slice none none (some (.UnaryOp .USub (.Constant (.int 1) k p1) p2)) p3) pos) (tRevT X.K te) := by
  refine ⟨fun pins s σ H Q I h => ?_⟩
  refine Subscript_ (thn (he.run pins s σ H _ I h) fun v s1 ⟨x, H1, I1, r1, q1⟩ => ?_)
  obtain ⟨a, xs, ex, hx, q⟩ := q1
  subst ex
  cases r1
  have hst : PO X (some (.UnaryOp .USub (.Constant (.int 1) k p1) p2)) (tPart (tUn (rU fun i => .int (-i)) (tC (.int 1)))) := po_some (pe_un un_neg pe_int)
  refine wpAny_Slice (thn (po_none.run pins s1 σ H1 (fun o H2 => o = none ∧ H2 = H1) I1 ⟨rfl, rfl⟩) fun vl s2 ⟨l, H2, I2, pl, el, e2⟩ => ?_)
  subst el e2
  refine thn (po_none.run pins s2 σ H2 (fun o H3 => o = none ∧ H3 = H2) I2 ⟨rfl, rfl⟩) fun vu s3 ⟨u, H3, I3, pu, eu, e3⟩ => ?_
  subst eu e3
  refine thn (hst.run pins s3 σ H3 (fun o H4 => o = some (-1) ∧ H4 = H3) I3 ⟨1, rfl, -1, rfl, rfl, rfl⟩) fun vs s4 ⟨o, H4, I4, ps, eo, e4⟩ => ?_
  subst eo e4
  have I5 : Inv X pins σ H4 { s4 with heap := s4.heap.push { cls := .type "slice", data := .fields #[vl, vu, vs] } } := I4.kept (t' := s4.toks) fun b ob q => Heap.get?_push_of_some _ q
  obtain ⟨its, r, ht, hz⟩ := I5.tuple hx
  have hlen := r.length
  show wpAny (model X.prog X.w) X.A (subscriptTail e (.Slice none none (some (.UnaryOp .USub (.Constant (.int 1) k p1) p2)) p3) (.ref a) (.ref s4.heap.objs.size)) (EP X pins σ Q) X.xe { s4 with heap := s4.heap.push { cls := .type "slice", data := .fields #[vl, vu, vs] } }
  refine tail_any (ops := [.ref a, .ref s4.heap.objs.size]) ht.typeIs (PyProof.Rows.slot_tuple_getitem.lookup) ?_ (by with_unfolding_all rfl)
  refine getItem_tuple_back ht (Heap.IsSliceOf.new _ vl vu vs) pl pu ps ?_ (by rw [List.size_toArray]; omega)
  refine ⟨.ref _, _, I5.laid (t' := s4.toks) (o := .tup xs.reverse) (fun b ob q => Heap.get?_push_of_some _ q) (Nat.le_refl _) ?_, rfl, q _ (I5.hok.fresh (Nat.le_refl _))⟩
  exact ⟨by rw [List.length_reverse]; exact hz, _, r.reverse, IsTup.new _ _⟩

/-- how a truth is written -/
def shB (b : Bool) : Str := if b then "True" else "False"
/-- repr(b), b a truth -/
theorem call_reprB : CallR X (.builtin "repr") (fun xs H Q => ∃ b, xs = [.bl b] ∧ Q (.str (shB b)) H) := by
  intro pins s σ H xs us Q I r h
  obtain ⟨b, rfl, q⟩ := h
  obtain ⟨u, rfl, r1⟩ := vals1 r
  cases r1
  exact P.repr_of_bool ⟨.str (shB b), H, I.tok _, ⟨_, rfl⟩, q⟩
end
end NB

set_option Elab.async false
set_option linter.all false
set_option maxRecDepth 100000
namespace NB
open PySem PySem.Spec PyProof.Rows L2
/-- data that repr writes: at most w by weight, nested at most n deep -/
structure Small (d : PyData) (w n : Nat) : Prop where
  sh : d.showable = true
  nd : d.hasDict = false
  dp : d.depth ≤ n
  lv : d.leavesShort 100 = true
  wt : d.weight ≤ w
structure SmallAll (ds : List PyData) (w n : Nat) : Prop where
  sh : PyData.showableAll ds = true
  nd : PyData.hasDictAll ds = false
  dp : PyData.depthAll ds ≤ n
  lv : PyData.leavesShortAll 100 ds = true
  wt : PyData.weightAll ds ≤ w
theorem Small.int {i : Int} (h : i.natAbs < 10 ^ 90) : Small (.int i) 310 0 := by
  have lg : i.natAbs.log2 < 300 := by
    have h2 : i.natAbs < 2 ^ 300 := Nat.lt_of_lt_of_le h (by decide)
    by_cases e : i.natAbs = 0
    · rw [e]; decide
    · exact (Nat.log2_lt e).mpr h2
  refine ⟨?_, rfl, Nat.le_refl _, ?_, ?_⟩
  · simp only [PyData.showable, decide_eq_true_eq]
    omega
  · simp only [PyData.leavesShort, decide_eq_true_eq]
    have e := int_text_length_le10 (k := 90) (by decide) h
    show (Str.ofString (toString i)).length ≤ 100
    rw [PySem.ofString_length]
    omega
  · show (if i == 0 then 0 else i.natAbs.log2 + 1) ≤ 310
    split <;> omega
theorem Small.bool (b : Bool) : Small (.bool b) 0 0 := ⟨rfl, rfl, Nat.le_refl _, rfl, Nat.le_refl _⟩
theorem Small.none : Small .none 0 0 := ⟨rfl, rfl, Nat.le_refl _, rfl, Nat.le_refl _⟩
theorem SmallAll.nil : SmallAll [] 0 0 := ⟨rfl, rfl, Nat.le_refl _, rfl, Nat.le_refl _⟩
theorem SmallAll.cons {d : PyData} {ds : List PyData} {w v n m : Nat} (h : Small d w n) (h' : SmallAll ds v m) : SmallAll (d :: ds) (w + 1 + v) (max n m) := by
  obtain ⟨a1, a2, a3, a4, a5⟩ := h
  obtain ⟨b1, b2, b3, b4, b5⟩ := h'
  refine ⟨?_, ?_, ?_, ?_, ?_⟩
  · simp only [PyData.showableAll, a1, b1, Bool.and_self]
  · simp only [PyData.hasDictAll, a2, b2, Bool.or_self]
  · simp only [PyData.depthAll]
    omega
  · simp only [PyData.leavesShortAll, a4, b4, Bool.and_self]
  · simp only [PyData.weightAll]
    omega
theorem Small.list {ds : List PyData} {w n : Nat} (h : SmallAll ds w n) : Small (.list ds) w (n + 1) := by
  obtain ⟨a1, a2, a3, a4, a5⟩ := h
  refine ⟨?_, ?_, ?_, ?_, ?_⟩
  · simpa only [PyData.showable] using a1
  · simpa only [PyData.hasDict] using a2
  · simp only [PyData.depth]
    omega
  · simpa only [PyData.leavesShort] using a4
  · simpa only [PyData.weight] using a5
theorem Small.tuple {ds : List PyData} {w n : Nat} (h : SmallAll ds w n) : Small (.tuple ds) w (n + 1) := by
  obtain ⟨a1, a2, a3, a4, a5⟩ := h
  refine ⟨?_, ?_, ?_, ?_, ?_⟩
  · simpa only [PyData.showable] using a1
  · simpa only [PyData.hasDict] using a2
  · simp only [PyData.depth]
    omega
  · simpa only [PyData.leavesShort] using a4
  · simpa only [PyData.weight] using a5
theorem SmallAll.ints : ∀ {xs : List Int}, (∀ x ∈ xs, x.natAbs < 10 ^ 90) → SmallAll (xs.map PyData.int) (311 * xs.length) 0
  | [], _ => .nil
  | x :: xs, h => by
    have c := SmallAll.cons (Small.int (h x List.mem_cons_self)) (SmallAll.ints fun y hy => h y (List.mem_cons_of_mem _ hy))
    refine ⟨c.sh, c.nd, c.dp, c.lv, Nat.le_trans c.wt ?_⟩
    rw [List.length_cons]
    omega
theorem Small.ok {d : PyData} {w n : Nat} (h : Small d w n) (hw : w ≤ 150000) (hn : n ≤ 60) : Showable d := by
  refine ⟨h.sh, h.nd, Nat.le_trans h.dp hn, ?_⟩
  have e := PyData.shown_le 100 (by decide) d h.lv
  have := h.wt
  rw [sizeLine_eq]
  have : (100 + 2) * d.weight ≤ (100 + 2) * 150000 := Nat.mul_le_mul_left _ (Nat.le_trans h.wt hw)
  omega
/-- what Dp reads of a tuple of ints -/
theorem dp_ints {K : PySem.W.Frag} {H : Hp} : ∀ xs : List Int, DpAll K H (xs.map V.int) (xs.map PyData.int)
  | [] => .nil
  | x :: xs => .cons (.int x) (dp_ints xs)
theorem dp_tup {K : PySem.W.Frag} {H : Hp} {p : Addr} {xs : List Int} (h : SqT K H p (xs.map V.int)) : Dp K H (.ref p) (.tuple (xs.map PyData.int)) := .tup h (dp_ints xs)
end NB

set_option Elab.async false
set_option linter.all false
set_option maxRecDepth 100000
set_option maxHeartbeats 1000000
/-! Data of any kind: None, truths, whole numbers, texts, lists, tuples, dicts. -/
namespace NB
open PySem PySem.Spec PyProof.Rows L2

def kD : Key → PyData
  | .inl i => .int i
  | .inr x => .str x
mutual
/-- the value v is the data d; its lists stand apart from n -/
inductive Da (n : Addr) (H : Hp) : V → PyData → Prop
  | non : Da n H .non .none
  | bl (b : Bool) : Da n H (.bl b) (.bool b)
  | int (i : Int) : Da n H (.int i) (.int i)
  | str (x : Str) : Da n H (.str x) (.str x)
  | lst {a : Addr} {xs : List V} {ds : List PyData} : H a = some (.lst xs) → a ≠ sysModules → a ≠ n → DaAll n H xs ds → Da n H (.ref a) (.list ds)
  | tup {a : Addr} {xs : List V} {ds : List PyData} : H a = some (.tup xs) → DaAll n H xs ds → Da n H (.ref a) (.tuple ds)
  | dct {a : Addr} {kvs : List (Key × V)} {ds : List (PyData × PyData)} : H a = some (.dK kvs) → DaKv n H kvs ds → Da n H (.ref a) (.dict ds)
inductive DaAll (n : Addr) (H : Hp) : List V → List PyData → Prop
  | nil : DaAll n H [] []
  | cons {v : V} {vs : List V} {d : PyData} {ds : List PyData} : Da n H v d → DaAll n H vs ds → DaAll n H (v :: vs) (d :: ds)
inductive DaKv (n : Addr) (H : Hp) : List (Key × V) → List (PyData × PyData) → Prop
  | nil : DaKv n H [] []
  | cons {k : Key} {v : V} {kvs : List (Key × V)} {d : PyData} {ds : List (PyData × PyData)} : Da n H v d → DaKv n H kvs ds → DaKv n H ((k, v) :: kvs) ((kD k, d) :: ds)
end
mutual
theorem Da.keep {n : Addr} {H H' : Hp} (hn : ∃ zs, H n = some (.lst zs)) (k : ∀ b o, b ≠ n → H b = some o → H' b = some o) : ∀ (d : PyData) (v : V), Da n H v d → Da n H' v d
  | .none, _, h => by cases h; exact .non
  | .bool b, _, h => by cases h; exact .bl b
  | .int i, _, h => by cases h; exact .int i
  | .str x, _, h => by cases h; exact .str x
  | .list ds, _, h => by
    cases h with
    | lst e n1 n2 ha => exact .lst (k _ _ n2 e) n1 n2 (DaAll.keep hn k ds _ ha)
  | .tuple ds, _, h => by
    cases h with
    | tup e ha =>
      refine .tup (k _ _ (fun z => ?_) e) (DaAll.keep hn k ds _ ha)
      obtain ⟨zs, q⟩ := hn
      rw [z, q] at e
      cases e
  | .dict ds, _, h => by
    cases h with
    | dct e ha =>
      refine .dct (k _ _ (fun z => ?_) e) (DaKv.keep hn k ds _ ha)
      obtain ⟨zs, q⟩ := hn
      rw [z, q] at e
      cases e
theorem DaAll.keep {n : Addr} {H H' : Hp} (hn : ∃ zs, H n = some (.lst zs)) (k : ∀ b o, b ≠ n → H b = some o → H' b = some o) : ∀ (ds : List PyData) (vs : List V), DaAll n H vs ds → DaAll n H' vs ds
  | [], _, h => by cases h; exact .nil
  | d :: ds, _, h => by
    cases h with
    | cons h1 h2 => exact .cons (Da.keep hn k d _ h1) (DaAll.keep hn k ds _ h2)
theorem DaKv.keep {n : Addr} {H H' : Hp} (hn : ∃ zs, H n = some (.lst zs)) (k : ∀ b o, b ≠ n → H b = some o → H' b = some o) : ∀ (ds : List (PyData × PyData)) (kvs : List (Key × V)), DaKv n H kvs ds → DaKv n H' kvs ds
  | [], _, h => by cases h; exact .nil
  | (_, d) :: ds, _, h => by
    cases h with
    | cons h1 h2 => exact .cons (Da.keep hn k d _ h1) (DaKv.keep hn k ds _ h2)
end
mutual
theorem Da.sameD {n : Addr} {H H' : Hp} (k : Same H H') : ∀ (d : PyData) (v : V), Da n H v d → Da n H' v d
  | .none, _, h => by cases h; exact .non
  | .bool b, _, h => by cases h; exact .bl b
  | .int i, _, h => by cases h; exact .int i
  | .str x, _, h => by cases h; exact .str x
  | .list ds, _, h => by
    cases h with
    | lst e n1 n2 ha => exact .lst (k _ _ e) n1 n2 (DaAll.sameD k ds _ ha)
  | .tuple ds, _, h => by
    cases h with
    | tup e ha => exact .tup (k _ _ e) (DaAll.sameD k ds _ ha)
  | .dict ds, _, h => by
    cases h with
    | dct e ha => exact .dct (k _ _ e) (DaKv.sameD k ds _ ha)
theorem DaAll.sameD {n : Addr} {H H' : Hp} (k : Same H H') : ∀ (ds : List PyData) (vs : List V), DaAll n H vs ds → DaAll n H' vs ds
  | [], _, h => by cases h; exact .nil
  | d :: ds, _, h => by
    cases h with
    | cons h1 h2 => exact .cons (Da.sameD k d _ h1) (DaAll.sameD k ds _ h2)
theorem DaKv.sameD {n : Addr} {H H' : Hp} (k : Same H H') : ∀ (ds : List (PyData × PyData)) (kvs : List (Key × V)), DaKv n H kvs ds → DaKv n H' kvs ds
  | [], _, h => by cases h; exact .nil
  | (_, d) :: ds, _, h => by
    cases h with
    | cons h1 h2 => exact .cons (Da.sameD k d _ h1) (DaKv.sameD k ds _ h2)
end
theorem Da.same {n : Addr} {H H' : Hp} {v : V} {d : PyData} (h : Da n H v d) (k : Same H H') : Da n H' v d := Da.sameD k d v h
theorem DaAll.same {n : Addr} {H H' : Hp} {vs : List V} {ds : List PyData} (h : DaAll n H vs ds) (k : Same H H') : DaAll n H' vs ds := DaAll.sameD k ds vs h
theorem DaAll.len {n : Addr} {H : Hp} {vs : List V} {ds : List PyData} (h : DaAll n H vs ds) : vs.length = ds.length := by
  induction ds generalizing vs with
  | nil => cases h; rfl
  | cons d ds ih =>
    cases h with
    | cons h1 h2 => rw [List.length_cons, List.length_cons, ih h2]
theorem DaAll.get {n : Addr} {H : Hp} {vs : List V} {ds : List PyData} (h : DaAll n H vs ds) (i : Nat) (v : V) (e : vs[i]? = some v) : ∃ d, ds[i]? = some d ∧ Da n H v d := by
  induction ds generalizing vs i with
  | nil => cases h; simp at e
  | cons d ds ih =>
    cases h with
    | cons h1 h2 =>
      cases i with
      | zero => exact ⟨d, rfl, by cases e; exact h1⟩
      | succ i => exact ih h2 i e
theorem DaAll.mem {n : Addr} {H : Hp} {vs : List V} {ds : List PyData} (h : DaAll n H vs ds) {v : V} (hv : v ∈ vs) : ∃ d ∈ ds, Da n H v d := by
  obtain ⟨i, hi, e⟩ := List.getElem_of_mem hv
  obtain ⟨d, e1, e2⟩ := h.get i v (by rw [List.getElem?_eq_getElem hi, e])
  exact ⟨d, List.mem_of_getElem? e1, e2⟩
theorem DaAll.app {n : Addr} {H : Hp} {vs us : List V} {ds es : List PyData} (h : DaAll n H vs ds) (h' : DaAll n H us es) : DaAll n H (vs ++ us) (ds ++ es) := by
  induction ds generalizing vs with
  | nil => cases h; exact h'
  | cons d ds ih =>
    cases h with
    | cons h1 h2 => exact .cons h1 (ih h2)
theorem DaAll.take {n : Addr} {H : Hp} {vs : List V} {ds : List PyData} (h : DaAll n H vs ds) (i : Nat) : DaAll n H (vs.take i) (ds.take i) := by
  induction ds generalizing vs i with
  | nil => cases h; simp only [List.take_nil]; exact .nil
  | cons d ds ih =>
    cases h with
    | cons h1 h2 =>
      cases i with
      | zero => simp only [List.take_zero]; exact .nil
      | succ i => simp only [List.take_succ_cons]; exact .cons h1 (ih h2 i)
theorem DaAll.drop {n : Addr} {H : Hp} {vs : List V} {ds : List PyData} (h : DaAll n H vs ds) (i : Nat) : DaAll n H (vs.drop i) (ds.drop i) := by
  induction ds generalizing vs i with
  | nil => cases h; simp only [List.drop_nil]; exact .nil
  | cons d ds ih =>
    cases h with
    | cons h1 h2 =>
      cases i with
      | zero => simp only [List.drop_zero]; exact .cons h1 h2
      | succ i => simp only [List.drop_succ_cons]; exact ih h2 i
theorem DaAll.ints {n : Addr} {H : Hp} : ∀ xs : List Int, DaAll n H (xs.map V.int) (xs.map PyData.int)
  | [] => .nil
  | x :: xs => .cons (.int x) (DaAll.ints xs)
/-- of which kind it is -/
def tyD : PyData → String
  | .none => "NoneType"
  | .bool _ => "bool"
  | .int _ => "int"
  | .str _ => "str"
  | .list _ => "list"
  | .tuple _ => "tuple"
  | .dict _ => "dict"
theorem Da.ty {K : PySem.W.Frag} {n : Addr} {H : Hp} {v : V} {d : PyData} (h : Da n H v d) : TyX K H v (.type (tyD d)) := by
  cases h with
  | non => exact .base .non
  | bl b => exact .base (.bl b)
  | int i => exact .base (.int i)
  | str x => exact .base (.str x)
  | lst e _ _ _ => exact .base (.lst e)
  | tup e _ => exact .base (.tup e)
  | dct e _ => exact .base (.dK e)
def isTupD : PyData → Bool
  | .tuple _ => true
  | _ => false
def isIntD : PyData → Bool
  | .int _ => true
  | .bool _ => true
  | _ => false
def isBoolD : PyData → Bool
  | .bool _ => true
  | _ => false
def isStrD : PyData → Bool
  | .str _ => true
  | _ => false
theorem kit_tup (d : PyData) : kitB (tyD d) "tuple" = some (isTupD d) := by cases d <;> (simp only [tyD, isTupD, isIntD, isBoolD, isStrD]; decide +kernel)
theorem kit_int (d : PyData) : kitB (tyD d) "int" = some (isIntD d) := by cases d <;> (simp only [tyD, isTupD, isIntD, isBoolD, isStrD]; decide +kernel)
theorem kit_bool (d : PyData) : kitB (tyD d) "bool" = some (isBoolD d) := by cases d <;> (simp only [tyD, isTupD, isIntD, isBoolD, isStrD]; decide +kernel)
theorem kit_str (d : PyData) : kitB (tyD d) "str" = some (isStrD d) := by cases d <;> (simp only [tyD, isTupD, isIntD, isBoolD, isStrD]; decide +kernel)
section
variable {X : Cx} {pins : List (Addr × Obj)} {σ : L2.St} {H : Hp} {s : Shared}
theorem key_reads {h : Heap} {k : Key} {u : Value} (e : keyIs k u = true) : Reads h u (kD k) [] := by
  rcases keyIs_shape e with ⟨i, t, rfl, rfl⟩ | ⟨x, t, rfl, rfl⟩
  · exact .int i t
  · exact .str x t
mutual
theorem Da.reads {n : Addr} (I : Inv X pins σ H s) : ∀ (d : PyData) (v : V) (u : Value), Da n H v d → RelV v u → ∃ as, Reads s.heap u d as ∧ sysModules ∉ as
  | .none, _, _, h, r => by
    cases h
    cases r
    exact ⟨_, Reads.none, List.not_mem_nil⟩
  | .bool b, _, _, h, r => by
    cases h
    cases r
    exact ⟨_, Reads.bool b, List.not_mem_nil⟩
  | .int i, _, _, h, r => by
    cases h
    obtain ⟨t, rfl⟩ := r
    exact ⟨_, Reads.int i t, List.not_mem_nil⟩
  | .str x, _, _, h, r => by
    cases h
    obtain ⟨t, rfl⟩ := r
    exact ⟨_, Reads.str x t, List.not_mem_nil⟩
  | .list ds, _, _, h, r => by
    cases h with
    | lst e n1 n2 ha =>
      cases r
      obtain ⟨its, rv, ⟨o, m, ho, hc, _, hd⟩, _⟩ := I.list (.inl (.inl e))
      obtain ⟨as, hr, hm⟩ := Da.readsAll I ds _ its ha rv
      refine ⟨_, Reads.list ho hc hd hr, fun z => ?_⟩
      rcases List.mem_cons.mp z with q | q
      · exact n1 q.symm
      · exact hm q
  | .tuple ds, _, _, h, r => by
    cases h with
    | tup e ha =>
      cases r
      obtain ⟨its, rv, ⟨o, ho, hc, m, hd⟩, _⟩ := I.tuple (.inl (.inl e))
      obtain ⟨as, hr, hm⟩ := Da.readsAll I ds _ its ha rv
      exact ⟨_, Reads.tuple ho hc hd hr, hm⟩
  | .dict ds, _, _, h, r => by
    cases h with
    | dct e ha =>
      rename_i a kvs
      cases r
      obtain ⟨_, hsys, vs, rel, o, es, ep, h1, h2, h3, _, pr, _⟩ := (show ObjOk X.prog X.w H s.heap a (.dK kvs) from I.hok a _ e)
      obtain ⟨as, bs, q1, m1, q2, m2⟩ := Da.readsKv I ds kvs vs es.toList ha rel pr
      refine ⟨_, Reads.dict h1 h2.1 h3 q1 q2, fun z => ?_⟩
      rw [List.cons_append] at z
      rcases List.mem_cons.mp z with q | q
      · exact beq_eq_false_iff_ne.mp hsys q.symm
      · rcases List.mem_append.mp q with q | q
        · exact m1 q
        · exact m2 q
theorem Da.readsAll {n : Addr} (I : Inv X pins σ H s) : ∀ (ds : List PyData) (vs : List V) (us : List Value), DaAll n H vs ds → Vals vs us → ∃ as, ReadsAll s.heap us ds as ∧ sysModules ∉ as
  | [], _, _, h, r => by
    cases h
    cases r
    exact ⟨_, ReadsAll.nil, List.not_mem_nil⟩
  | d :: ds, _, _, h, r => by
    cases h with
    | cons h1 h2 =>
      cases r with
      | cons r1 r2 =>
        obtain ⟨as, q1, m1⟩ := Da.reads I d _ _ h1 r1
        obtain ⟨bs, q2, m2⟩ := Da.readsAll I ds _ _ h2 r2
        refine ⟨_, ReadsAll.cons q1 q2, fun z => ?_⟩
        rcases List.mem_append.mp z with q | q
        · exact m1 q
        · exact m2 q
theorem Da.readsKv {n : Addr} (I : Inv X pins σ H s) : ∀ (ds : List (PyData × PyData)) (kvs : List (Key × V)) (vs : List (Key × Value)) (es : List DictEntry), DaKv n H kvs ds → KV kvs vs → Pairs (mixKind X.prog X.w) es vs →
    ∃ as bs, ReadsAll s.heap (es.map (·.key)) (ds.map (·.1)) as ∧ sysModules ∉ as ∧ ReadsAll s.heap (es.map (·.val)) (ds.map (·.2)) bs ∧ sysModules ∉ bs
  | [], _, _, _, h, r, p => by
    cases h
    cases r
    cases p
    exact ⟨_, _, ReadsAll.nil, List.not_mem_nil, ReadsAll.nil, List.not_mem_nil⟩
  | (_, d) :: ds, _, _, _, h, r, p => by
    cases h with
    | cons h1 h2 =>
      cases r with
      | cons r1 r2 =>
        cases p with
        | cons p1 p2 p3 =>
          obtain ⟨as, bs, q1, m1, q2, m2⟩ := Da.readsKv I ds _ _ _ h2 r2 p3
          obtain ⟨cs, q3, m3⟩ := Da.reads I d _ _ h1 r1.2
          refine ⟨_, _, ReadsAll.cons (key_reads (by have e := r1.1; simp only at e; show keyIs _ _ = true; rw [e]; exact p1)) q1, ?_, ReadsAll.cons (by show Reads s.heap (DictEntry.val _) d _; rw [p2]; exact q3) q2, fun z => ?_⟩
          · rw [List.nil_append]
            exact m1
          · rcases List.mem_append.mp z with q | q
            · exact m3 q
            · exact m2 q
end
end
/-- data that repr writes: at most w by weight, nested at most k deep -/
structure Sm (d : PyData) (w k : Nat) : Prop where
  sh : d.showable = true
  dp : d.depth ≤ k
  lv : d.leavesShort 100 = true
  wt : d.weight ≤ w
theorem Sm.mono {d : PyData} {w v k m : Nat} (h : Sm d w k) (hw : w ≤ v) (hk : k ≤ m) : Sm d v m := ⟨h.sh, Nat.le_trans h.dp hk, h.lv, Nat.le_trans h.wt hw⟩
/-- each of them -/
def SmE (ds : List PyData) (k : Nat) : Prop := ∀ d ∈ ds, d.showable = true ∧ d.depth ≤ k ∧ d.leavesShort 100 = true
theorem smE_iff : ∀ (ds : List PyData) (k : Nat), SmE ds k ↔ PyData.showableAll ds = true ∧ PyData.depthAll ds ≤ k ∧ PyData.leavesShortAll 100 ds = true
  | [], k => by
    refine ⟨fun _ => ⟨rfl, Nat.zero_le _, rfl⟩, fun _ d h => absurd h List.not_mem_nil⟩
  | d :: ds, k => by
    have ih := smE_iff ds k
    constructor
    · intro h
      have h1 := h d List.mem_cons_self
      have h2 := ih.mp fun e he => h e (List.mem_cons_of_mem _ he)
      refine ⟨?_, ?_, ?_⟩
      · simp only [PyData.showableAll, h1.1, h2.1, Bool.and_self]
      · simp only [PyData.depthAll]
        omega
      · simp only [PyData.leavesShortAll, h1.2.2, h2.2.2, Bool.and_self]
    · rintro ⟨h1, h2, h3⟩ e he
      simp only [PyData.showableAll, Bool.and_eq_true] at h1
      simp only [PyData.depthAll] at h2
      simp only [PyData.leavesShortAll, Bool.and_eq_true] at h3
      rcases List.mem_cons.mp he with rfl | he
      · exact ⟨h1.1, by omega, h3.1⟩
      · exact ih.mpr ⟨h1.2, by omega, h3.2⟩ e he
theorem smE_iff_depth : ∀ (ds : List PyData) (k : Nat), PyData.depthAll ds ≤ k ↔ ∀ d ∈ ds, d.depth ≤ k
  | [], k => ⟨fun _ d h => absurd h List.not_mem_nil, fun _ => Nat.zero_le _⟩
  | d :: ds, k => by
    have ih := smE_iff_depth ds k
    simp only [PyData.depthAll]
    constructor
    · intro h e he
      rcases List.mem_cons.mp he with rfl | he
      · omega
      · exact ih.mp (by omega) e he
    · intro h
      have h1 := h d List.mem_cons_self
      have h2 := ih.mpr fun e he => h e (List.mem_cons_of_mem _ he)
      omega
theorem wt_app : ∀ xs ys : List PyData, PyData.weightAll (xs ++ ys) = PyData.weightAll xs + PyData.weightAll ys
  | [], ys => by simp [PyData.weightAll]
  | x :: xs, ys => by
    rw [List.cons_append]
    simp only [PyData.weightAll, wt_app xs ys]
    omega
theorem wt_len : ∀ xs : List PyData, xs.length ≤ PyData.weightAll xs
  | [] => by simp [PyData.weightAll]
  | x :: xs => by
    have := wt_len xs
    simp only [PyData.weightAll, List.length_cons]
    omega
theorem wt_mem : ∀ {xs : List PyData} {d : PyData}, d ∈ xs → d.weight + 1 ≤ PyData.weightAll xs
  | [], d, h => absurd h List.not_mem_nil
  | x :: xs, d, h => by
    simp only [PyData.weightAll]
    rcases List.mem_cons.mp h with rfl | h
    · omega
    · have := wt_mem h
      omega
theorem Sm.tup {ds : List PyData} {w k : Nat} (h : SmE ds k) (hw : PyData.weightAll ds ≤ w) : Sm (.tuple ds) w (k + 1) := by
  obtain ⟨a, b, c⟩ := (smE_iff ds k).mp h
  refine ⟨?_, ?_, ?_, ?_⟩
  · simpa only [PyData.showable] using a
  · simp only [PyData.depth]
    omega
  · simpa only [PyData.leavesShort] using c
  · simpa only [PyData.weight] using hw
theorem Sm.lst {ds : List PyData} {w k : Nat} (h : SmE ds k) (hw : PyData.weightAll ds ≤ w) : Sm (.list ds) w (k + 1) := by
  obtain ⟨a, b, c⟩ := (smE_iff ds k).mp h
  refine ⟨?_, ?_, ?_, ?_⟩
  · simpa only [PyData.showable] using a
  · simp only [PyData.depth]
    omega
  · simpa only [PyData.leavesShort] using c
  · simpa only [PyData.weight] using hw
theorem Sm.of_tup {ds : List PyData} {w k : Nat} (h : Sm (.tuple ds) w k) : ∃ j, k = j + 1 ∧ SmE ds j ∧ PyData.weightAll ds ≤ w := by
  obtain ⟨a, b, c, e⟩ := h
  simp only [PyData.showable] at a
  simp only [PyData.depth] at b
  simp only [PyData.leavesShort] at c
  simp only [PyData.weight] at e
  refine ⟨k - 1, by omega, (smE_iff ds _).mpr ⟨a, by omega, c⟩, e⟩
theorem Sm.int {i : Int} (h : i.natAbs < 10 ^ 90) : Sm (.int i) 310 0 := by
  have s := Small.int h
  exact ⟨s.sh, s.dp, s.lv, s.wt⟩
theorem Sm.bool (b : Bool) : Sm (.bool b) 0 0 := ⟨rfl, Nat.le_refl _, rfl, Nat.le_refl _⟩
theorem Sm.none : Sm .none 0 0 := ⟨rfl, Nat.le_refl _, rfl, Nat.le_refl _⟩
theorem Sm.e {d : PyData} {w k : Nat} (h : Sm d w k) : d.showable = true ∧ d.depth ≤ k ∧ d.leavesShort 100 = true := ⟨h.sh, h.dp, h.lv⟩
theorem Sm.dict0 : Sm (.dict []) 0 1 := ⟨rfl, by decide, rfl, Nat.le_refl _⟩
theorem Sm.dict1 {x : Str} {d : PyData} {w v k : Nat} (hx : Sm (.str x) v k) (h : Sm d w k) : Sm (.dict [(.str x, d)]) (v + w + 2) (k + 1) := by
  have a := hx.wt
  have b := h.wt
  have c := hx.dp
  have e := h.dp
  refine ⟨?_, ?_, ?_, ?_⟩
  · simp only [PyData.showable, PyData.showableKv, h.sh, Bool.and_self]
  · simp only [PyData.depth, PyData.depthKv]
    omega
  · have e1 := hx.lv
    simp only [PyData.leavesShort, PyData.leavesShortKv] at e1 ⊢
    rw [e1, h.lv]
    rfl
  · simp only [PyData.weight, PyData.weightKv] at a ⊢
    omega
theorem Sm.long {d : PyData} {w k : Nat} (h : Sm d w k) (hw : w ≤ 150000) : d.shown.length ≤ sizeLine := by
  have e := PyData.shown_le 100 (by decide) d h.lv
  have := h.wt
  rw [sizeLine_eq]
  have : (100 + 2) * d.weight ≤ (100 + 2) * 150000 := Nat.mul_le_mul_left _ (Nat.le_trans h.wt hw)
  omega
section
variable {X : Cx}
/-- isinstance(x, T), x data -/
theorem call_isiD : CallR X (.builtin "isinstance") (fun xs H Q => ∃ n v d T b, xs = [v, .ty T] ∧ Da n H v d ∧ kitB (tyD d) T = some b ∧ Q (.bl b) H) := by
  intro pins s σ H xs us Q I r h
  obtain ⟨n, v, d, T, b, rfl, hd, hk, q⟩ := h
  exact call_isi pins s σ H _ us Q I r ⟨v, .ty T, _, _, b, rfl, .ty T, hd.ty, kit_ty hk, q⟩
/-- repr(x), x data -/
theorem call_reprA (hG : X.A.guards = some []) (hu : X.A.units + 64 < cLine) : CallR X (.builtin "repr") (fun xs H Q => ∃ n v d w k, xs = [v] ∧ Da n H v d ∧ Sm d w k ∧ w ≤ 150000 ∧ k ≤ 60 ∧ Q (.str d.shown) H) := by
  intro pins s σ H xs us Q I r h
  obtain ⟨n, v, d, w, k, rfl, hd, S, hw, hk, q⟩ := h
  obtain ⟨u, rfl, ru⟩ := vals1 r
  have hz := S.long hw
  have hsh := S.sh
  cases v with
  | ref a =>
    obtain ⟨as, rd, nm⟩ := Da.reads I d _ u hd ru
    cases ru
    have hn := S.dp
    exact repr_of_reads' rd S.sh (fun _ => nm) hG (by omega) (fun _ _ z => z) (fun h' u tk hk => ⟨.str _, H, I.kept hk, ⟨_, rfl⟩, q⟩) hz
  | non =>
    cases hd
    cases ru
    exact P.repr_of_none ⟨.str "None", H, I.tok _, ⟨_, rfl⟩, q⟩
  | bl b =>
    cases hd
    cases ru
    exact P.repr_of_bool ⟨.str (if b then "True" else "False"), H, I.tok _, ⟨_, rfl⟩, q⟩
  | int i =>
    cases hd
    obtain ⟨t, rfl⟩ := ru
    simp only [PyData.showable, decide_eq_true_eq] at hsh
    exact P.repr_of_int hsh ⟨.str (toString i), H, I.tok _, ⟨_, rfl⟩, q⟩
  | str x =>
    cases hd
    obtain ⟨t, rfl⟩ := ru
    exact P.repr_of_str ⟨.str (reprText x), H, I.tok _, ⟨_, rfl⟩, q⟩ hz
  | _ => cases hd
/-- t == (), t any tuple -/
theorem op_eq0 (hu : X.A.units < cLine) : OpR X (compareOp .Eq) (fun x y H Q => ∃ a b xs, x = .ref a ∧ y = .ref b ∧ SqT X.K H a xs ∧ SqT X.K H b [] ∧ Q (.bl xs.isEmpty) H) := by
  intro pins s σ H x y v u Q I rx ry h
  obtain ⟨a, b, xs, rfl, rfl, ha, hb, q⟩ := h
  cases rx
  cases ry
  obtain ⟨i1, r1, p1, _⟩ := I.tuple ha
  obtain ⟨i2, r2, p2, _⟩ := I.tuple hb
  cases r2
  refine SeqAt.eq_tupleAt (e := fun _ => true) p1 p2 hu (fun j h1 h2 => absurd h2 (by simp)) ?_
  refine ⟨.bl xs.isEmpty, H, I, ?_, q⟩
  have e := r1.length
  cases xs with
  | nil =>
    cases r1
    rfl
  | cons z zs =>
    cases r1
    simp [L2.RelV]
/-- x is y, x is not y, of truths -/
theorem op_isB : OpR X (compareOp .Is) (fun x y H Q => ∃ a b, x = .bl a ∧ y = .bl b ∧ Q (.bl (a == b)) H) := by
  intro pins s σ H x y v u Q I rx ry h
  obtain ⟨a, b, rfl, rfl, q⟩ := h
  cases rx
  cases ry
  exact wpAny_pure ⟨.bl (a == b), H, I, by cases a <;> cases b <;> rfl, q⟩
theorem op_isnotB : OpR X (compareOp .IsNot) (fun x y H Q => ∃ a b, x = .bl a ∧ y = .bl b ∧ Q (.bl (!(a == b))) H) := by
  intro pins s σ H x y v u Q I rx ry h
  obtain ⟨a, b, rfl, rfl, q⟩ := h
  cases rx
  cases ry
  exact wpAny_pure ⟨.bl (!(a == b)), H, I, by cases a <;> cases b <;> rfl, q⟩
/-- t != (), t any tuple -/
theorem op_ne0 (hu : X.A.units < cLine) : OpR X (compareOp .NotEq) (fun x y H Q => ∃ a b xs, x = .ref a ∧ y = .ref b ∧ SqT X.K H a xs ∧ SqT X.K H b [] ∧ Q (.bl (!xs.isEmpty)) H) := by
  intro pins s σ H x y v u Q I rx ry h
  obtain ⟨a, b, xs, rfl, rfl, ha, hb, q⟩ := h
  cases rx
  cases ry
  obtain ⟨i1, r1, p1, _⟩ := I.tuple ha
  obtain ⟨i2, r2, p2, _⟩ := I.tuple hb
  cases r2
  refine SeqAt.RcNeAt.tuples (e := fun _ => true) p1 p2 hu (fun j h1 h2 => absurd h2 (by simp)) X.prog X.w X.xe _ ?_
  refine ⟨.bl (!xs.isEmpty), H, I, ?_, q⟩
  cases xs with
  | nil =>
    cases r1
    rfl
  | cons z zs =>
    cases r1
    simp [L2.RelV]
/-- a written list stands apart from what the machine keeps by itself -/
def tLstN (t : TA) : TE := fun σ H Q => t σ H fun xs H1 => xs.length ≤ sizeLine ∧ ∀ p, H1 p = none → p ≠ sysModules → Q (.ref p) (upd H1 p (.lst xs))
theorem pe_lstN {es : List Expr} {pos : Pos} {t : TA} (h : PA X es t) : PE X (.List es pos) (tLstN t) := by
  refine ⟨fun pins s σ H Q I hq => ?_⟩
  refine wpAny_List_spliced (thn (h.run pos pins s σ H _ I hq) fun us s1 ⟨xs, H1, I1, r, z, q⟩ => ⟨by rw [← r.length]; exact z, ?_⟩)
  have hf : H1 s1.heap.objs.size = none := I1.hok.fresh (Nat.le_refl _)
  refine ⟨.ref s1.heap.objs.size, upd H1 s1.heap.objs.size (.lst xs), I1.laid (t' := s1.toks) (fun b u e => Heap.get?_push_of_some _ e) (Nat.le_refl _) ?_, rfl, q _ hf (Nat.ne_of_gt I1.big)⟩
  exact ⟨z, us, 0, r, Heap.get?_push_size _ rfl⟩
/-- list(t), t a tuple -/
theorem call_list_ofN : CallR X (.type "list") (fun xs H Q => ∃ p ys, xs = [.ref p] ∧ SqT X.K H p ys ∧ ∀ l, H l = none → l ≠ sysModules → Q (.ref l) (upd H l (.lst ys))) := by
  intro pins s σ H xs us Q I r h
  obtain ⟨p, ys, rfl, hq, q⟩ := h
  obtain ⟨u, rfl, rx⟩ := vals1 r
  cases rx
  have fin : ∀ (its : List Value), Vals ys its → ys.length ≤ sizeLine → ∀ (h' : Heap) (c' : Nat), (∀ b o', s.heap.get? b = some o' → h'.get? b = some o') →
      h'.get? s.heap.objs.size = some { cls := .type "list", dict := none, data := .seq its.toArray c', slots := #[] } → EP X pins σ Q (.ref s.heap.objs.size) { s with heap := h' } := fun its r' hz h' c' kp e =>
    ⟨.ref s.heap.objs.size, _, I.laid (t' := s.toks) kp (Nat.le_refl _) (show ObjOk X.prog X.w _ h' _ (.lst ys) from ⟨hz, its, c', r', e⟩), rfl, q _ (I.hok.fresh (Nat.le_refl _)) (Nat.ne_of_gt I.big)⟩
  obtain ⟨its, r', pl, hz⟩ := I.tuple hq
  have hlen := r'.length
  obtain ⟨o, ho, hc, n, hd⟩ := pl
  exact call_list_seq p (.inr rfl) ho hc hd (fun h' c' kp e => fin its r' hz h' c' kp e) (by simp only [List.size_toArray] <;> omega)
end
/-- two ways that come to the same -/
theorem join2 {c : Bool} {A B : VK → Prop} {Q : VK} (R : V → Hp → Prop) (hA : ∀ Q' : VK, (∀ v H, R v H → Q' v H) → A Q') (hB : ∀ Q' : VK, (∀ v H, R v H → Q' v H) → B Q') (hQ : ∀ v H, R v H → Q v H) : if c = true then A Q else B Q := by
  cases c
  · exact iteF (hB Q hQ)
  · exact iteT (hA Q hQ)
theorem inV_int2 (i j k : Int) : inV (V.int i) [V.int j, V.int k] = (decide (i = j) || decide (i = k)) := by
  rw [Bool.eq_iff_iff]
  simp only [inV, eqV, List.any_cons, List.any_nil, Bool.or_false, Bool.or_eq_true, beq_iff_eq, decide_eq_true_eq]
  constructor
  · rintro (h | h)
    · exact .inl h.symm
    · exact .inr h.symm
  · rintro (h | h)
    · exact .inl h.symm
    · exact .inr h.symm
theorem inV_str2 (z x y : Str) : inV (V.str z) [V.str x, V.str y] = (decide (z = x) || decide (z = y)) := by
  rw [Bool.eq_iff_iff]
  simp only [inV, eqV, List.any_cons, List.any_nil, Bool.or_false, Bool.or_eq_true, beq_iff_eq, decide_eq_true_eq]
  constructor
  · rintro (h | h)
    · exact .inl h.symm
    · exact .inr h.symm
  · rintro (h | h)
    · exact .inl h.symm
    · exact .inr h.symm
theorem wipe1 {σ : L2.St} {k : Nat} {v : Option V} {n : Str} : wipe ((wipe σ ([(n, k)].map (·.2))).set k v) ([(n, k)].map (·.2)) = wipe σ ([(n, k)].map (·.2)) := by
  show ((σ.set k none).set k v).set k none = σ.set k none
  rw [List.set_set, List.set_set]
end NB

set_option Elab.async false
set_option linter.all false
set_option maxRecDepth 100000
namespace K66
open PySem PySem.Spec PyProof.Rows L2 NB
def topS (i : Nat) : Stmt := PySem.Challenge.pw_notbothout_k66_halls_at_first.main.body.getD i (.Pass ⟨0, 0, 0, 0⟩)

/-- all that was tracked stands, but for what is at a -/
def But (a : Addr) (H H' : Hp) : Prop := ∀ b o, b ≠ a → H b = some o → H' b = some o
theorem But.of {a : Addr} {H H' : Hp} (h : Same H H') : But a H H' := fun b o _ e => h b o e
theorem But.trans {a : Addr} {H H1 H2 : Hp} (h : But a H H1) (h' : But a H1 H2) : But a H H2 := fun b o n e => h' b o n (h b o n e)
theorem But.seq {K : PySem.W.Frag} {a l : Addr} {H H' : Hp} {xs : List V} (h : But a H H') (n : l ≠ a) (q : SqL K H l xs) : SqL K H' l xs := by
  rcases q with (q | ⟨o, q⟩) | q
  · exact .inl (.inl (h _ _ n q))
  · exact .inl (.inr ⟨o, h _ _ n q⟩)
  · exact .inr q
theorem But.tup {K : PySem.W.Frag} {a l : Addr} {H H' : Hp} {xs : List V} (h : But a H H') (n : l ≠ a) (q : SqT K H l xs) : SqT K H' l xs := by
  rcases q with (q | ⟨o, q⟩) | q
  · exact .inl (.inl (h _ _ n q))
  · exact .inl (.inr ⟨o, h _ _ n q⟩)
  · exact .inr q
theorem sameT {K : PySem.W.Frag} {l : Addr} {H H' : Hp} {xs : List V} (h : Same H H') (q : SqT K H l xs) : SqT K H' l xs := by
  rcases q with (q | ⟨o, q⟩) | q
  · exact .inl (.inl (h _ _ q))
  · exact .inl (.inr ⟨o, h _ _ q⟩)
  · exact .inr q
theorem same_new {H : Hp} {p : Addr} {o : HO} (h : H p = none) : Same H (upd H p o) := fun b x e => by
  rw [upd_ne (ne_of_none e h)]
  exact e
/-- a cell that was free and is written stands apart from what was -/
theorem same_over {H H' : Hp} {p : Addr} {o : HO} (h : Same H H') (n : H p = none) : Same H (upd H' p o) := fun b x e => by
  rw [upd_ne (ne_of_none e n)]
  exact h b x e

theorem mapGet {α β : Type} {f : α → β} {xs : List α} {i : Nat} {y : β} (h : (xs.map f)[i]? = some y) : ∃ x, xs[i]? = some x ∧ y = f x := by
  rw [List.getElem?_map] at h
  cases e : xs[i]? with
  | none => rw [e] at h; cases h
  | some x => rw [e] at h; exact ⟨x, rfl, (Option.some.inj h).symm⟩

theorem take_map {α β : Type} (f : α → β) (xs : List α) (i : Nat) (y : α) (h : xs[i]? = some y) : (xs.take (i + 1)).map f = (xs.take i).map f ++ [f y] := by
  rw [List.take_add_one, h, List.map_append]
  rfl
theorem take_small {α : Type} {xs : List α} {i : Nat} (h : xs.length ≤ 1000) {β : Type} (f : α → β) : ((xs.take i).map f).length < sizeLine := by
  rw [List.length_map, List.length_take]
  exact Nat.lt_of_le_of_lt (Nat.min_le_right _ _) (small1000 h)

abbrev sPot : Stmt := topS 58
abbrev sTake : Stmt := topS 59
abbrev sOf : Stmt := topS 60
abbrev sStand : Stmt := topS 63
theorem scPot : FnScope ["_law_script", "_law_k", "_law_cell", "_law_great"] ["_law_script", "_law_k"] (defScope sPot) := ⟨rfl, rfl, rfl, by decide +kernel, rfl, by decide +kernel, by decide +kernel⟩
theorem scTake : FnScope ["_law_pot_here", "_law_many", "_law_digit", "_law_prime", "_law_mixed"] ["_law_pot_here", "_law_many"] (defScope sTake) := ⟨rfl, rfl, rfl, by decide +kernel, rfl, by decide +kernel, by decide +kernel⟩
theorem scOf : FnScope ["_law_pot_here", "_law_some"] ["_law_pot_here", "_law_some"] (defScope sOf) := ⟨rfl, rfl, rfl, by decide +kernel, rfl, by decide +kernel, by decide +kernel⟩
theorem scStand : FnScope ["_law_pot_here", "_law_tops_here", "_law_top"] ["_law_pot_here", "_law_tops_here"] (defScope sStand) := ⟨rfl, rfl, rfl, by decide +kernel, rfl, by decide +kernel, by decide +kernel⟩

/-- a pot out of which at most c numbers were taken by reckoning -/
def PotAt (H : Hp) (a : Addr) (c : Nat) : Prop := ∃ p q r : Int, H a = some (.lst [.int p, .int q, .int r]) ∧ 0 ≤ p ∧ 0 ≤ r ∧ r ≤ c
theorem PotAt.mono {H : Hp} {a : Addr} {c d : Nat} (h : PotAt H a c) (le : c ≤ d) : PotAt H a d := by
  obtain ⟨p, q, r, e, h1, h2, h3⟩ := h
  exact ⟨p, q, r, e, h1, h2, by omega⟩
theorem PotAt.keep {H H' : Hp} {a : Addr} {c : Nat} (h : PotAt H a c) (s : Same H H') : PotAt H' a c := by
  obtain ⟨p, q, r, e, h1, h2, h3⟩ := h
  exact ⟨p, q, r, s _ _ e, h1, h2, h3⟩
theorem PotAt.ne {H : Hp} {a b : Addr} {c : Nat} (h : PotAt H a c) (n : H b = none) : b ≠ a := by
  obtain ⟨p, q, r, e, _⟩ := h
  exact (ne_of_none e n).symm
theorem But.free {a b : Addr} {H H' : Hp} (h : But a H H') (ne : b ≠ a) (n : H' b = none) : H b = none := by
  cases e : H b with
  | none => rfl
  | some o =>
    rw [h b o ne e] at n
    cases n
theorem but_new {a p : Addr} {H H' : Hp} {o : HO} (h : But a H H') (n : H p = none) : But a H (upd H' p o) := fun b x ne e => by
  rw [upd_ne (ne_of_none e n)]
  exact h b x ne e
theorem but_at {a : Addr} {H H' : Hp} {o : HO} (h : But a H H') : But a H (upd H' a o) := fun b x ne e => by
  rw [upd_ne ne]
  exact h b x ne e

theorem prime_at (j : Int) (h0 : 0 ≤ j) (h4 : j < 4) : ∃ pr : Int, atI [V.int 2305843009213693951, V.int 999999999989, V.int 1000000000039, V.int 67280421310721] j = some (.int pr) ∧ 0 < pr ∧ pr < 2 ^ 62 := by
  have : j = 0 ∨ j = 1 ∨ j = 2 ∨ j = 3 := by omega
  rcases this with rfl | rfl | rfl | rfl
  · exact ⟨_, atI_nat (j := 0) rfl, by decide, by decide⟩
  · exact ⟨_, atI_nat (j := 1) rfl, by decide, by decide⟩
  · exact ⟨_, atI_nat (j := 2) rfl, by decide, by decide⟩
  · exact ⟨_, atI_nat (j := 3) rfl, by decide, by decide⟩

section
variable {P : Program} {w : World} {K : PySem.W.Frag} {mg : Str → Option Value} {base : Heap}

def spPot (K : PySem.W.Frag) : Sp := fun vs H Q _ => ∃ (a : Addr) (ns : List Int) (k : Nat), vs = [.ref a, .int k] ∧ SqL K H a (ns.map V.int) ∧ k ≤ 1000 ∧
  ∀ H' p, Same H H' → H p = none → PotAt H' p 0 → Q (.ref p) H'
theorem ok_pot {f : Addr} {fd : FuncData} {k : Nat} (F : Fun K "_law_pot" "_law_pot" sPot f fd) (ml : mg "len" = none) (ma : mg "abs" = none) (mi : mg "int" = none) : FnOk P w K mg base CX0 (k + 1) f fd ["_law_script", "_law_k"] (spPot K) := by
  refine F.ok scPot (fun vs H Q E h => ?_) (fun cdv A outer s H vs Q E hr h => ?_)
  · obtain ⟨a, ns, k, rfl, _⟩ := h
    rfl
  · obtain ⟨a, ns, k, rfl, hS, hk, q⟩ := h
    refine ⟨_, pss_cons (ps_set (i := 2) scPot.nd rfl (.inl rfl) (pe_ifExp (pt_cmpR op_lt (pv 1) (pe_callB call_len_seq (by rfl) ml PySem.boot_len (pa_cons (pv 0) pa_nil)) (nomark _)) (pe_ix ix_list (pv 0) (pv 1) (fun _ _ => rfl)) (pe_op op_add (pe_op op_mul pe_int (pv 1)) pe_int)))
      (pss_cons (ps_set (i := 3) scPot.nd rfl (.inl rfl) (pe_op op_mul (pe_op op_mod (pe_callB call_abs (by rfl) ma (by decide +kernel) (pa_cons (pv 2) pa_nil)) (pe_op op_powW (pe_op op_pow pe_int pe_int) pe_int))
          (pe_callTy call_int1 (by rfl) mi (by decide +kernel) (pa_cons (pe_cmpR op_ge (pe_callB call_abs (by rfl) ma (by decide +kernel) (pa_cons (pv 2) pa_nil)) (pe_op op_pow pe_int pe_int) (nomark _)) pa_nil))))
      (pss_one (ps_ret (pe_lst (pa_cons (pv 3) (pa_cons (pe_op op_mod (pe_op op_mul (pe_op op_add (pe_op op_add (pe_op op_mod (pv 2) pe_int) (pe_op op_mul (pe_op op_mul pe_int (pv 1)) (pv 1))) pe_int) pe_int) pe_int) (pa_cons pe_int pa_nil))))))), ?_⟩
    have k1 : -(2 ^ 64) < (k : Int) ∧ (k : Int) < 2 ^ 64 := by omega
    have big : (0 : Int) < (10 ^ (60 : Int).toNat) ^ (5 : Int).toNat := by decide +kernel
    have one : ∀ b : Bool, -(2 ^ 64) < (if b = true then (1 : Int) else 0) ∧ (if b = true then (1 : Int) else 0) < 2 ^ 64 := fun b => by cases b <;> decide
    have nn : ∀ (x : Int) (b : Bool), 0 ≤ x % (10 ^ (60 : Int).toNat) ^ (5 : Int).toNat * (if b = true then (1 : Int) else 0) := fun x b => Int.mul_nonneg (Int.emod_nonneg _ (Int.ne_of_gt big)) (by cases b <;> decide)
    refine ⟨.int k, rfl, .ref a, rfl, a, _, rfl, .inl hS, _, _, rfl, rfl, _, rfl, ite2 (fun c => ?_) (fun c => ?_)⟩
    · have c' := of_decide_eq_true c
      rw [List.length_map] at c'
      have lt : k < ns.length := by omega
      refine ⟨.ref a, rfl, .int k, rfl, a, _, k, .int ns[k], rfl, rfl, hS, atI_nat (by rw [List.getElem?_map, List.getElem?_eq_getElem lt]; rfl), ?_⟩
      refine ⟨.int ns[k], rfl, _, rfl, 10, 60, rfl, rfl, ⟨by decide, by decide, by decide⟩, _, 5, rfl, rfl, ⟨by decide, by decide +kernel⟩, _, _, rfl, rfl, big, .int ns[k], rfl, _, rfl, 10, 18, rfl, rfl, ⟨by decide, by decide, by decide⟩, _, _, rfl, rfl, .inr ⟨_, rfl, _, _, rfl, rfl, .inr (one _), ?_⟩⟩
      refine ⟨_, rfl, .int ns[k], rfl, _, 2305843009213693951, rfl, rfl, (show (0 : Int) < 2305843009213693951 by decide), .int k, rfl, 7919, k, rfl, rfl, .inl ⟨by decide, by decide⟩, .int k, rfl, _, k, rfl, rfl, .inr k1, _, _, rfl, rfl, _, 17, rfl, rfl, _, 48271, rfl, rfl, .inr ⟨by decide, by decide⟩, _, 2305843009213693921, rfl, rfl, (show (0 : Int) < 2305843009213693921 by decide), (show 3 ≤ sizeLine by decide), fun p np => ?_⟩
      exact q _ p (same_new np) np ⟨_, _, 0, upd_same, nn _ _, Int.le_refl _, Int.le_refl _⟩
    · refine ⟨.int k, rfl, 7, _, rfl, rfl, .inl ⟨by decide, by decide⟩, _, 3, rfl, rfl, ?_⟩
      refine ⟨_, rfl, _, rfl, 10, 60, rfl, rfl, ⟨by decide, by decide, by decide⟩, _, 5, rfl, rfl, ⟨by decide, by decide +kernel⟩, _, _, rfl, rfl, big, _, rfl, _, rfl, 10, 18, rfl, rfl, ⟨by decide, by decide, by decide⟩, _, _, rfl, rfl, .inr ⟨_, rfl, _, _, rfl, rfl, .inr (one _), ?_⟩⟩
      refine ⟨_, rfl, _, rfl, _, 2305843009213693951, rfl, rfl, (show (0 : Int) < 2305843009213693951 by decide), .int k, rfl, 7919, k, rfl, rfl, .inl ⟨by decide, by decide⟩, .int k, rfl, _, k, rfl, rfl, .inr k1, _, _, rfl, rfl, _, 17, rfl, rfl, _, 48271, rfl, rfl, .inr ⟨by decide, by decide⟩, _, 2305843009213693921, rfl, rfl, (show (0 : Int) < 2305843009213693921 by decide), (show 3 ≤ sizeLine by decide), fun p np => ?_⟩
      exact q _ p (same_new np) np ⟨_, _, 0, upd_same, nn _ _, Int.le_refl _, Int.le_refl _⟩

/-- a drawn number -/
def spTake : Sp := fun vs H Q _ => ∃ (a : Addr) (m : Int) (c : Nat), vs = [.ref a, .int m] ∧ PotAt H a c ∧ 1 ≤ m ∧ m < 2 ^ 200 ∧ c < 1000000 ∧
  ∀ (d : Int) H', But a H H' → PotAt H' a (c + 1) → 0 ≤ d → d < m → Q (.int d) H'
theorem ok_take {f : Addr} {fd : FuncData} {k : Nat} (F : Fun K "_law_take" "_law_take" sTake f fd) : FnOk P w K mg base CX0 (k + 1) f fd ["_law_pot_here", "_law_many"] spTake := by
  refine F.ok scTake (fun vs H Q E h => ?_) (fun cdv A outer s H vs Q E hr h => ?_)
  · obtain ⟨a, m, c, rfl, _⟩ := h
    rfl
  · obtain ⟨a, m, c, rfl, ⟨p0, p1, p2, ea, n0, n2, l2⟩, m1, m2, hc, q⟩ := h
    refine ⟨_, pss_cons (ps_if (pt_cmpR op_gt (pe_ix ix_list (pv 0) pe_int (fun _ _ => rfl)) pe_int (nomark _))
        (pss_cons (ps_set (i := 2) scTake.nd rfl (.inl rfl) (pe_op op_mod (pe_ix ix_list (pv 0) pe_int (fun _ _ => rfl)) (pv 1)))
        (pss_cons (ps_asg (pe_op op_fdivW (pe_ix ix_list (pv 0) pe_int (fun _ _ => rfl)) (pv 1)) (pg_sub (pv 0) pe_int set_list))
        (pss_one (ps_ret (pv 2))))) pss_nil)
      (pss_cons (ps_asg (pe_op op_add (pe_ix ix_list (pv 0) pe_int (fun _ _ => rfl)) pe_int) (pg_sub (pv 0) pe_int set_list))
      (pss_cons (ps_set (i := 3) scTake.nd rfl (.inl rfl) (pe_ix ix_list (pe_lst (pa_cons pe_int (pa_cons pe_int (pa_cons pe_int (pa_cons pe_int pa_nil))))) (pe_op op_mod (pe_ix ix_list (pv 0) pe_int (fun _ _ => rfl)) pe_int) (fun _ _ => rfl)))
      (pss_cons (ps_set (i := 4) scTake.nd rfl (.inl rfl) (pe_op op_mod (pe_op op_add (pe_op op_add (pe_ix ix_list (pv 0) pe_int (fun _ _ => rfl)) (pe_op op_mul (pe_op op_mul pe_int (pe_ix ix_list (pv 0) pe_int (fun _ _ => rfl))) (pe_ix ix_list (pv 0) pe_int (fun _ _ => rfl)))) (pe_op op_mul pe_int (pe_ix ix_list (pv 0) pe_int (fun _ _ => rfl)))) (pv 3)))
      (pss_cons (ps_set (i := 4) scTake.nd rfl (.inl rfl) (pe_op op_mod (pe_op op_pow (pv 4) pe_int) (pv 3)))
      (pss_one (ps_ret (pe_op op_mod (pe_op op_add (pe_op op_fdiv (pv 4) pe_int) (pe_op op_mul (pe_op op_fdiv (pv 4) pe_int) pe_int)) (pv 1)))))))), ?_⟩
    have mpos : (0 : Int) < m := by omega
    refine ⟨.ref a, rfl, a, _, 0, .int p0, rfl, rfl, .inl (.inl ea), atI_nat (j := 0) rfl, _, 0, rfl, rfl, _, rfl, ite2 (fun _ => ?_) (fun _ => ?_)⟩
    · refine ⟨.ref a, rfl, a, _, 0, .int p0, rfl, rfl, .inl (.inl ea), atI_nat (j := 0) rfl, .int m, rfl, p0, m, rfl, rfl, mpos, ?_⟩
      refine ⟨.ref a, rfl, a, _, 0, .int p0, rfl, rfl, .inl (.inl ea), atI_nat (j := 0) rfl, .int m, rfl, p0, m, rfl, rfl, wide_div (b := 200) mpos (by omega) (by decide) (by decide), ?_⟩
      refine ⟨.ref a, rfl, a, _, 0, 0, rfl, rfl, ea, rfl, ?_⟩
      refine ⟨.int (p0 % m), rfl, ?_⟩
      refine q _ _ (but_at (fun _ _ _ e => e)) ⟨p0 / m, p1, p2, upd_same, Int.ediv_nonneg n0 (by omega), n2, by omega⟩ (Int.emod_nonneg _ (by omega)) (Int.emod_lt_of_pos _ mpos)
    · refine ⟨.ref a, rfl, a, _, 2, .int p2, rfl, rfl, .inl (.inl ea), atI_nat (j := 2) rfl, p2, 1, rfl, rfl, ?_⟩
      refine ⟨.ref a, rfl, a, _, 2, 2, rfl, rfl, ea, rfl, ?_⟩
      obtain ⟨pr, epr, pp, pl⟩ := prime_at ((p2 + 1) % 4) (Int.emod_nonneg _ (by decide)) (Int.emod_lt_of_pos _ (by decide))
      have ea2 : (upd H a (.lst [.int p0, .int p1, .int (p2 + 1)])) a = some (.lst [.int p0, .int p1, .int (p2 + 1)]) := upd_same
      refine ⟨(show 4 ≤ sizeLine by decide), fun l nl => ?_⟩
      have nla : a ≠ l := ne_of_none ea2 nl
      have ea3 : (upd (upd H a (.lst [.int p0, .int p1, .int (p2 + 1)])) l (.lst [V.int 2305843009213693951, V.int 999999999989, V.int 1000000000039, V.int 67280421310721])) a = some (.lst [.int p0, .int p1, .int (p2 + 1)]) := (upd_ne nla).trans ea2
      refine ⟨.ref a, rfl, a, _, 2, .int (p2 + 1), rfl, rfl, .inl (.inl ea3), atI_nat (j := 2) rfl, p2 + 1, 4, rfl, rfl, (show (0 : Int) < 4 by decide), l, _, (p2 + 1) % 4, .int pr, rfl, rfl, .inl (.inl upd_same), epr, ?_⟩
      have b2 : -(2 ^ 64) < p2 + 1 ∧ p2 + 1 < 2 ^ 64 := by omega
      refine ⟨.ref a, rfl, a, _, 1, .int p1, rfl, rfl, .inl (.inl ea3), atI_nat (j := 1) rfl, .ref a, rfl, a, _, 2, .int (p2 + 1), rfl, rfl, .inl (.inl ea3), atI_nat (j := 2) rfl, 7919, p2 + 1, rfl, rfl, .inl ⟨by decide, by decide⟩, .ref a, rfl, a, _, 2, .int (p2 + 1), rfl, rfl, .inl (.inl ea3), atI_nat (j := 2) rfl, _, p2 + 1, rfl, rfl, .inr b2, _, _, rfl, rfl,
        .ref a, rfl, a, _, 2, .int (p2 + 1), rfl, rfl, .inl (.inl ea3), atI_nat (j := 2) rfl, 65537, p2 + 1, rfl, rfl, .inl ⟨by decide, by decide⟩, _, _, rfl, rfl, .int pr, rfl, _, pr, rfl, rfl, pp, ?_⟩
      have mx : ∀ e : Int, (e % pr).natAbs < 2 ^ 64 := fun e => by
        have h1 := Int.emod_nonneg e (Int.ne_of_gt pp)
        have h2 := Int.emod_lt_of_pos e pp
        omega
      refine ⟨_, rfl, _, 5, rfl, rfl, ⟨by decide, by decide, mx _⟩, .int pr, rfl, _, pr, rfl, rfl, pp, ?_⟩
      refine ⟨_, rfl, _, 4099, rfl, rfl, ⟨by decide, by decide⟩, _, rfl, _, 1000003, rfl, rfl, ⟨by decide, by decide⟩, _, 7, rfl, rfl, .inr ⟨by decide, by decide⟩, _, _, rfl, rfl, .int m, rfl, _, m, rfl, rfl, mpos, ?_⟩
      refine q _ _ ?_ ⟨p0, p1, p2 + 1, ea3, n0, by omega, by omega⟩ (Int.emod_nonneg _ (by omega)) (Int.emod_lt_of_pos _ mpos)
      exact but_new (but_at (fun _ _ _ e => e)) (by rw [upd_ne nla.symm] at nl; exact nl)
end

/-- a def that is known by its promise -/
structure Kn (P : Program) (w : World) (K : PySem.W.Frag) (mg : Str → Option Value) (base : Heap) (k : Nat) (x : Str) (ps : List Str) (sp : Sp) (f : Addr) (fd : FuncData) : Prop where
  ok : FnOk P w K mg base CX0 k f fd ps sp
  gl : mg x = some (.ref f)
  kp : PySem.W.keepIn K (.ref f) = true
  bi : Binds K fd ps []
theorem pe_kn {X : Cx} {k j : Nat} {x : Str} {ps : List Str} {sp : Sp} {f : Addr} {fd : FuncData} {p pos : Pos} {e : Expr} {es : List Expr} {t : TA} (C : Kn X.prog X.w X.K X.mg X.base k x ps sp f fd) (hr : Room j X.A) (hj : k ≤ j) (ha : PA X (e :: es) t) (hg : Gl X x := by rfl) (hdb : (x == ("__debug__" : Str)) = false := by decide)
    (he : starEach (e :: es) X.env = (false, eval e X.env) :: starEach es X.env := by rfl) (hpl : (backTo pos (starEach es X.env)).any (·.1) = false := by rfl) :
    PE X (.Call (.Name x p) (e :: es) [] pos) (tCall sp [] E0 t) := pe_call C.ok (hr.mono hj) hg C.gl C.kp C.bi .nil pass0 ha hdb he hpl

theorem But.tupP {K : PySem.W.Frag} {a t : Addr} {H H' : Hp} {c : Nat} {xs : List V} (b : But a H H') (p : PotAt H a c) (q : SqT K H t xs) : SqT K H' t xs := by
  obtain ⟨_, _, _, e, _⟩ := p
  rcases q with (q | ⟨o, q⟩) | q
  · exact .inl (.inl (b _ _ (ne_of q e (by intro z; cases z)) q))
  · exact .inl (.inr ⟨o, b _ _ (ne_of q e (by intro z; cases z)) q⟩)
  · exact .inr q
/-- places, or tops -/
def Pl (xs : List Int) : Prop := ∀ x ∈ xs, 0 ≤ x ∧ x < 10 ^ 30
theorem Pl.snoc {xs : List Int} {x : Int} (h : Pl xs) (h0 : 0 ≤ x) (h1 : x < 10 ^ 30) : Pl (xs ++ [x]) := fun y hy => by
  rcases List.mem_append.mp hy with q | q
  · exact h y q
  · rw [List.mem_singleton.mp q]
    exact ⟨h0, h1⟩

section
variable {P : Program} {w : World} {K : PySem.W.Frag} {mg : Str → Option Value} {base : Heap}

/-- one of some -/
def spOf (K : PySem.W.Frag) : Sp := fun vs H Q _ => ∃ (a l : Addr) (xs : List V) (c : Nat), vs = [.ref a, .ref l] ∧ PotAt H a c ∧ l ≠ a ∧ (SqL K H l xs ∨ SqT K H l xs) ∧ 1 ≤ xs.length ∧ xs.length ≤ 1000000 ∧ c < 1000000 ∧
  ∀ x H', x ∈ xs → But a H H' → PotAt H' a (c + 1) → Q x H'
theorem ok_of {f fT : Addr} {fd fdT : FuncData} {k : Nat} (F : Fun K "_law_of" "_law_of" sOf f fd) (T : Kn P w K mg base 1 "_law_take" ["_law_pot_here", "_law_many"] spTake fT fdT) (ml : mg "len" = none) : FnOk P w K mg base CX0 (k + 2) f fd ["_law_pot_here", "_law_some"] (spOf K) := by
  refine F.ok scOf (fun vs H Q E h => ?_) (fun cdv A outer s H vs Q E hr h => ?_)
  · obtain ⟨a, l, xs, c, rfl, _⟩ := h
    rfl
  · obtain ⟨a, l, xs, c, rfl, pa, ne, hl, l1, l2, hc, q⟩ := h
    refine ⟨_, pss_one (ps_ret (pe_ix ix_seq (pv 1) (pe_kn T hr (Nat.le_add_left 1 k) (pa_cons (pv 0) (pa_cons (pe_callB call_len_seq (by rfl) ml PySem.boot_len (pa_cons (pv 1) pa_nil)) pa_nil))) (fun _ _ => rfl))), ?_⟩
    refine ⟨.ref l, rfl, .ref a, rfl, .ref l, rfl, l, xs, rfl, hl, a, _, c, rfl, pa, by omega, ?_, hc, fun d H' b p' d0 dm => ?_⟩
    · have : (xs.length : Int) ≤ 1000000 := by omega
      exact Int.lt_of_le_of_lt this (by decide)
    have lt : d.toNat < xs.length := by omega
    have ei : atI xs d = some xs[d.toNat] := by
      have := atI_nat (xs := xs) (j := d.toNat) (List.getElem?_eq_getElem lt)
      rwa [Int.toNat_of_nonneg d0] at this
    have fin := q xs[d.toNat] H' (List.getElem_mem lt) b p'
    rcases hl with h | h
    · exact .inl ⟨l, xs, d, _, rfl, rfl, b.seq ne h, ei, fin⟩
    · exact .inr (.inl ⟨l, xs, d, _, rfl, rfl, b.tup ne h, ei, fin⟩)

/-- none beyond its top -/
def Le (st tops : List Int) : Prop := ∀ (i : Nat) (x t : Int), st[i]? = some x → tops[i]? = some t → x ≤ t
theorem Le.snoc {st tops : List Int} {x t : Int} (h : Le st tops) (e : tops[st.length]? = some t) (l : x ≤ t) : Le (st ++ [x]) tops := fun i y u h1 h2 => by
  rcases Nat.lt_or_ge i st.length with q | q
  · rw [List.getElem?_append_left q] at h1
    exact h i y u h1 h2
  · rw [List.getElem?_append_right q] at h1
    have e0 : i - st.length = 0 := by
      rcases Nat.eq_zero_or_pos (i - st.length) with z | z
      · exact z
      · rw [List.getElem?_eq_none (by simp only [List.length_cons, List.length_nil]; omega)] at h1
        cases h1
    have ei : i = st.length := by omega
    subst ei
    rw [e0] at h1
    cases h1
    rw [e] at h2
    cases h2
    exact l
/-- a standing -/
def spStand (K : PySem.W.Frag) : Sp := fun vs H Q _ => ∃ (a t : Addr) (tops : List Int) (c : Nat), vs = [.ref a, .ref t] ∧ PotAt H a c ∧ SqT K H t (tops.map V.int) ∧ Pl tops ∧ tops.length ≤ 12 ∧ c < 900000 ∧
  ∀ H' p st, But a H H' → PotAt H' a (c + 12) → H p = none → H' p = some (.tup (st.map V.int)) → st.length = tops.length → Pl st → Le st tops → Q (.ref p) H'
theorem ok_stand {f fT : Addr} {fd fdT : FuncData} {k : Nat} (F : Fun K "_law_standing" "_law_standing" sStand f fd) (T : Kn P w K mg base 1 "_law_take" ["_law_pot_here", "_law_many"] spTake fT fdT) (mt : mg "tuple" = none) : FnOk P w K mg base CX0 (k + 2) f fd ["_law_pot_here", "_law_tops_here"] (spStand K) := by
  refine F.ok scStand (fun vs H Q E h => ?_) (fun cdv A outer s H vs Q E hr h => ?_)
  · obtain ⟨a, t, tops, c, rfl, _⟩ := h
    rfl
  · obtain ⟨a, t, tops, c, rfl, pa, ht, pl, l12, hc, q⟩ := h
    refine ⟨_, pss_one (ps_ret (pe_callTy call_tuple_of (by rfl) mt (by decide +kernel) (pa_cons
      (pe_lc (own := [("_law_top", 2)]) (g := gName 2) (tt := tYes) rfl scStand.nd (pi_tup (pv 1)) (blkOk_by (N := ["_law_pot_here", "_law_tops_here", "_law_top"]) (sc := defScope sStand) (by decide +kernel))
        (fun _ _ _ _ _ => pg_name (i := 2) scStand.nd rfl (.inl rfl) (hf := .inr rfl)) (fun _ _ _ _ _ => pts_nil)
        (fun _ _ _ _ _ => pe_kn T hr (Nat.le_add_left 1 k) (pa_cons (pv 0) (pa_cons (pe_op op_add (pv 2) pe_int) pa_nil)))) pa_nil))), ?_⟩
    refine ⟨.ref t, rfl, t, rfl, ⟨_, ht⟩, fun D nD => lc_it (walk_tup (xs := tops.map V.int)) (fun i H' => But a H H' ∧ PotAt H' a (c + i) ∧ ∃ st : List Int, H' D = some (.lst (st.map V.int)) ∧ st.length = i ∧ Pl st ∧ Le st tops)
      ⟨but_new (fun _ _ _ e => e) nD, pa.keep (same_new nD), [], upd_same, rfl, fun _ h => absurd h List.not_mem_nil, fun i x t h => by simp at h⟩ (fun i H' _ p => p.1.tupP pa ht) (fun i v H1 H2 hi p y => ?_) (fun H' p => ?_)⟩
    · obtain ⟨b, p1, st, eD, sl, sp, sle⟩ := p
      obtain ⟨rfl, gv⟩ := y
      obtain ⟨x, ex, rfl⟩ := mapGet gv
      have hx := pl x (List.mem_of_getElem? ex)
      have hi' : i < tops.length := by simpa using hi
      refine ⟨rfl, .ref a, rfl, .int x, rfl, x, 1, rfl, rfl, a, x + 1, c + i, rfl, p1, by omega, ?_, by omega, fun d H3 b3 p3 d0 dm => ?_⟩
      · have : x + 1 ≤ 10 ^ 30 := by omega
        exact Int.lt_of_le_of_lt this (by decide)
      have nDa : D ≠ a := pa.ne nD
      refine ⟨_, b3 _ _ nDa eD, ?_, but_new (b.trans b3) nD, ?_, st ++ [d], ?_, ?_, sp.snoc d0 (by omega), sle.snoc (by rw [sl]; exact ex) (by omega)⟩
      · rw [List.length_map]
        exact small1000 (by omega)
      · obtain ⟨u, v, r, e, z⟩ := p3
        exact ⟨u, v, r, (upd_ne nDa.symm).trans e, z⟩
      · rw [upd_same, List.map_append]
        rfl
      · rw [List.length_append, sl]
        rfl
    · obtain ⟨b, p1, st, eD, sl, sp, sle⟩ := p
      rw [List.length_map] at p1 sl
      refine ⟨D, _, rfl, .inl ⟨.inl (.inl eD), fun l nl => ?_⟩⟩
      have nla : l ≠ a := p1.ne nl
      have nlH : H l = none := b.free nla nl
      refine q _ l st (but_new b nlH) (((p1.mono (by omega)).keep (same_new nl))) nlH upd_same sl sp sle
end

section
variable {P : Program} {w : World} {K : PySem.W.Frag} {mg : Str → Option Value} {base : Heap}

theorem pot_upd {H : Hp} {a p : Addr} {c : Nat} {o : HO} (h : PotAt H a c) (n : p ≠ a) : PotAt (upd H p o) a c := by
  obtain ⟨x, y, z, e, r⟩ := h
  exact ⟨x, y, z, (upd_ne n.symm).trans e, r⟩
theorem e15 : (10 : Int) ^ (15 : Int).toNat = 1000000000000000 := by decide
theorem e30 : (10 : Int) ^ (30 : Int).toNat = 10 ^ 30 := by decide

end
end K66

set_option Elab.async false
set_option linter.all false
set_option maxRecDepth 100000
namespace K66
open PySem PySem.Spec PyProof.Rows L2 NB
def Keep (H H' : Hp) : Prop := ∀ b o, (∀ xs, o ≠ .lst xs) → H b = some o → H' b = some o
theorem Keep.refl (H : Hp) : Keep H H := fun _ _ _ e => e
theorem Keep.trans {H H1 H2 : Hp} (a : Keep H H1) (b : Keep H1 H2) : Keep H H2 := fun c o n e => b c o n (a c o n e)
theorem Keep.same {H H' : Hp} (h : Same H H') : Keep H H' := fun b o _ e => h b o e
theorem Keep.but {a : Addr} {H H' : Hp} {c : Nat} (h : But a H H') (p : PotAt H a c) : Keep H H' := fun b o n e => by
  obtain ⟨x, y, z, ea, _⟩ := p
  exact h b o (fun q => n _ (by rw [q, ea] at e; exact (Option.some.inj e).symm)) e
theorem Keep.upd {H : Hp} {l : Addr} {o : HO} {xs : List V} (e : H l = some (.lst xs)) : Keep H (upd H l o) := fun b x n q => by
  rw [upd_ne (fun z => n xs (by rw [z, e] at q; exact (Option.some.inj q).symm))]
  exact q
theorem Keep.tup {H H' : Hp} {p : Addr} {xs : List V} (k : Keep H H') (e : H p = some (.tup xs)) : H' p = some (.tup xs) := k _ _ (fun _ q => by cases q) e
theorem Keep.sq {K : PySem.W.Frag} {H H' : Hp} {p : Addr} {xs : List V} (k : Keep H H') (e : SqT K H p xs) : SqT K H' p xs := by
  rcases e with (q | ⟨o, q⟩) | q
  · exact .inl (.inl (k _ _ (fun _ q => by cases q) q))
  · exact .inl (.inr ⟨o, k _ _ (fun _ q => by cases q) q⟩)
  · exact .inr q

abbrev Sd := Nat × Bool × Int
abbrev Rl := Sd × Sd
def word (b : Bool) : Str := if b then "from" else "to"
def SideAt (H : Hp) (p : Addr) (s : Sd) : Prop := H p = some (.tup [.int s.1, .str (word s.2.1), .int s.2.2])
def RuleAt (H : Hp) (r : Addr) (q : Rl) : Prop := ∃ p1 p2, H r = some (.tup [.ref p1, .ref p2]) ∧ SideAt H p1 q.1 ∧ SideAt H p2 q.2
theorem SideAt.keep {H H' : Hp} {p : Addr} {s : Sd} (h : SideAt H p s) (k : Keep H H') : SideAt H' p s := k.tup h
theorem RuleAt.keep {H H' : Hp} {p : Addr} {q : Rl} (h : RuleAt H p q) (k : Keep H H') : RuleAt H' p q := by
  obtain ⟨p1, p2, e, h1, h2⟩ := h
  exact ⟨p1, p2, k.tup e, h1.keep k, h2.keep k⟩
theorem word_in (b : Bool) : inV (.str (word b)) [.str "from", .str "to"] = true := by cases b <;> decide +kernel
theorem word_from : word true = "from" := rfl

end K66

set_option Elab.async false
set_option linter.all false
set_option maxRecDepth 100000
namespace K66
open PySem PySem.Spec PyProof.Rows L2 NB

/-! ### letters, of anything -/
def wholeD : PyData → Bool
  | .int _ => true
  | _ => false
def countD : PyData → Bool
  | .int i => decide (0 ≤ i)
  | _ => false
def noneD : PyData → Bool
  | .none => true
  | _ => false
def posD : PyData → Bool
  | .int i => decide (1 ≤ i)
  | _ => false
def standD : PyData → Bool
  | .tuple ps => (decide (1 ≤ ps.length) && decide (ps.length ≤ 12)) && ps.all countD
  | _ => false
def wishD : PyData → Bool
  | .tuple ds => decide (ds.length = 2) && (posD (ds.getD 0 .none) && standD (ds.getD 1 .none))
  | _ => false
def strIs (z : Str) : PyData → Bool
  | .str x => decide (x = z)
  | _ => false
def letterD : PyData → Bool
  | .tuple ds => if ds.length = 2 then strIs "word" (ds.getD 0 .none) && wishD (ds.getD 1 .none)
      else decide (ds.length = 4) && ((strIs "ask" (ds.getD 0 .none) || strIs "leave" (ds.getD 0 .none)) && ((countD (ds.getD 1 .none) && countD (ds.getD 2 .none)) && (noneD (ds.getD 3 .none) || wishD (ds.getD 3 .none))))
  | _ => false
theorem tup_or (d : PyData) : (∃ ds, d = .tuple ds) ∨ isTupD d = false := by
  cases d with
  | tuple ds => exact .inl ⟨ds, rfl⟩
  | _ => exact .inr rfl
theorem not_tup {d : PyData} (h : isTupD d = false) : wishD d = false ∧ letterD d = false ∧ standD d = false := by
  cases d with
  | tuple ds => cases h
  | _ => exact ⟨rfl, rfl, rfl⟩
theorem all_take {α : Type} (g : α → Bool) (xs : List α) (i : Nat) (y : α) (h : xs[i]? = some y) : ((xs.take (i + 1)).map g).map V.bl = ((xs.take i).map g).map V.bl ++ [V.bl (g y)] := by
  rw [List.take_add_one, h, List.map_append, List.map_append]
  rfl
theorem all_id {α : Type} (g : α → Bool) (xs : List α) : (xs.map g).all id = xs.all g := by
  rw [List.all_map]
  rfl
section
variable {P : Program} {w : World} {K : PySem.W.Frag} {mg : Str → Option Value} {base : Heap}
/-- a look at data that leaves all as it is -/
def spLook (g : PyData → Bool) : Sp := fun vs H Q _ => ∃ (n : Addr) (v : V) (d : PyData), vs = [v] ∧ Da n H v d ∧ ∀ H', Same H H' → Q (.bl (g d)) H'
abbrev a_is_whole : Stmt := topS 13
abbrev n_is_whole : List Str := ["thing"]
theorem sc_is_whole : FnScope n_is_whole ["thing"] (defScope a_is_whole) := ⟨rfl, rfl, rfl, by decide +kernel, rfl, by decide +kernel, by decide +kernel⟩
set_option maxHeartbeats 8000000 in
theorem ok_is_whole {f  : Addr} {fd  : FuncData} {k : Nat}  (F : Fun K "is_whole" "is_whole" a_is_whole f fd)   (m_bool : mg "bool" = none) (m_int : mg "int" = none) (m_isinstance : mg "isinstance" = none) : FnOk P w K mg base CX0 (k + 1) f fd ["thing"] (spLook wholeD) := by
  refine F.ok sc_is_whole (fun vs H Q E h => ?_) (fun cdv A outer s H vs Q E hr h => ?_)
  · obtain ⟨n, v, d, rfl, _⟩ := h
    rfl
  · obtain ⟨n, v, d, rfl, hd, q⟩ := h
    refine ⟨_, (pss_one (ps_ret (pe_and (pe_callB call_isiD (by rfl) m_isinstance (by decide +kernel) (pa_cons (pv 0) (pa_cons (pe_bltn (v := .ty "int") (u := .type "int") (by rfl) m_int (by decide +kernel) rfl) pa_nil))) (pe_one (pe_not (pe_callB call_isiD (by rfl) m_isinstance (by decide +kernel) (pa_cons (pv 0) (pa_cons (pe_bltn (v := .ty "bool") (u := .type "bool") (by rfl) m_bool (by decide +kernel) rfl) pa_nil)))))))), ?_⟩
    refine ⟨v, rfl, n, v, d, "int", _, rfl, hd, kit_int d, _, rfl, ?_⟩
    cases hd with
    | int i => exact iteT ⟨_, rfl, n, _, _, "bool", _, rfl, .int i, kit_bool _, _, rfl, q H (Same.refl H)⟩
    | bl b => exact iteT ⟨_, rfl, n, _, _, "bool", _, rfl, .bl b, kit_bool _, _, rfl, q H (Same.refl H)⟩
    | _ => exact iteF (q H (Same.refl H))
end
end K66

set_option Elab.async false
set_option linter.all false
set_option maxRecDepth 100000
namespace K66
open PySem PySem.Spec PyProof.Rows L2 NB

abbrev Wi := Int × List Int
def WiP (w : Wi) : Prop := 1 ≤ w.1 ∧ w.1 < 10 ^ 30 ∧ w.2 ≠ [] ∧ w.2.length ≤ 12 ∧ Pl w.2
def WV (H : Hp) (v : V) : Option Wi → Prop
  | none => v = .non
  | some w => ∃ p q, v = .ref p ∧ H p = some (.tup [.int w.1, .ref q]) ∧ H q = some (.tup (w.2.map V.int))
theorem WV.keep {H H' : Hp} {v : V} : ∀ {o : Option Wi}, WV H v o → Keep H H' → WV H' v o
  | none, h, _ => h
  | some w, ⟨p, q, e, e1, e2⟩, k => ⟨p, q, e, k.tup e1, k.tup e2⟩
abbrev Lt := Str × List Int × Option Wi
def LetAt (H : Hp) (p : Addr) (l : Lt) : Prop := ∃ v, H p = some (.tup (.str l.1 :: (l.2.1.map V.int ++ [v]))) ∧ WV H v l.2.2
theorem LetAt.keep {H H' : Hp} {p : Addr} {l : Lt} (h : LetAt H p l) (k : Keep H H') : LetAt H' p l := by
  obtain ⟨v, e, w⟩ := h
  exact ⟨v, k.tup e, w.keep k⟩
def LetP (l : Lt) : Prop := (((l.1 = "ask" ∨ l.1 = "leave") ∧ l.2.1.length = 2) ∨ (l.1 = "word" ∧ l.2.1 = [] ∧ l.2.2 ≠ none)) ∧ Pl l.2.1 ∧ ∀ w, l.2.2 = some w → WiP w
theorem LetP.few {l : Lt} (h : LetP l) : l.2.1.length ≤ 2 := by
  rcases h.1 with ⟨_, e⟩ | ⟨_, e, _⟩
  · omega
  · rw [e]; exact Nat.zero_le _
theorem LetP.word {l : Lt} (h : LetP l) : l.1 = "ask" ∨ l.1 = "leave" ∨ l.1 = "word" := by
  rcases h.1 with ⟨e | e, _⟩ | ⟨e, _⟩
  · exact .inl e
  · exact .inr (.inl e)
  · exact .inr (.inr e)
def wiD : Option Wi → PyData
  | none => .none
  | some w => .tuple [.int w.1, .tuple (w.2.map PyData.int)]
def ltD (l : Lt) : PyData := .tuple ((.str l.1 :: l.2.1.map PyData.int) ++ [wiD l.2.2])
theorem da_ints {n : Addr} {H : Hp} : ∀ xs : List Int, DaAll n H (xs.map V.int) (xs.map PyData.int)
  | [] => .nil
  | x :: xs => .cons (.int x) (da_ints xs)
theorem da_app {n : Addr} {H : Hp} : ∀ {xs : List V} {ds : List PyData} {v : V} {d : PyData}, DaAll n H xs ds → Da n H v d → DaAll n H (xs ++ [v]) (ds ++ [d])
  | [], _, _, _, .nil, h => .cons h .nil
  | _ :: _, _, _, _, .cons h1 h2, h => .cons h1 (da_app h2 h)
theorem da_wish {n : Addr} {H : Hp} {v : V} : ∀ {o : Option Wi}, WV H v o → Da n H v (wiD o)
  | none, h => by
    have e : v = .non := h
    rw [e]
    exact .non
  | some w, ⟨p, q, e, e1, e2⟩ => by
    rw [e]
    exact .tup e1 (.cons (.int _) (.cons (.tup e2 (da_ints _)) .nil))
theorem da_let {n : Addr} {H : Hp} {p : Addr} {l : Lt} (h : LetAt H p l) : Da n H (.ref p) (ltD l) := by
  obtain ⟨v, e, w⟩ := h
  exact .tup e (da_app (xs := .str l.1 :: l.2.1.map V.int) (.cons (.str _) (da_ints _)) (da_wish w))
theorem count_ints {xs : List Int} (h : Pl xs) : (xs.map PyData.int).all countD = true := by
  rw [List.all_eq_true]
  intro d hd
  obtain ⟨x, hx, rfl⟩ := List.mem_map.mp hd
  exact decide_eq_true (h x hx).1
theorem wish_isD {w : Wi} (h : WiP w) : wishD (wiD (some w)) = true := by
  show (decide (2 = 2) && (decide (1 ≤ w.1) && ((decide (1 ≤ (w.2.map PyData.int).length) && decide ((w.2.map PyData.int).length ≤ 12)) && (w.2.map PyData.int).all countD))) = true
  have l1 : 1 ≤ w.2.length := List.length_pos_iff.mpr h.2.2.1
  rw [count_ints h.2.2.2.2, List.length_map, decide_eq_true h.1, decide_eq_true l1, decide_eq_true h.2.2.2.1]
  rfl
theorem let_isD {l : Lt} (h : LetP l) : letterD (ltD l) = true := by
  obtain ⟨a, ns, o⟩ := l
  rcases h.1 with ⟨hw, h2⟩ | ⟨hw, h0, hn⟩
  · match ns, h2, h with
    | [i, j], _, h =>
    have hi := h.2.1 i (by simp)
    have hj := h.2.1 j (by simp)
    show (if (4 : Nat) = 2 then (strIs "word" (PyData.str a) && wishD (PyData.int i)) else decide ((4 : Nat) = 4) && ((decide (a = "ask") || decide (a = "leave")) && ((decide (0 ≤ i) && decide (0 ≤ j)) && (noneD (wiD o) || wishD (wiD o))))) = true
    rw [if_neg (by decide), decide_eq_true hi.1, decide_eq_true hj.1]
    have ho : (noneD (wiD o) || wishD (wiD o)) = true := by
      cases o with
      | none => rfl
      | some w => rw [wish_isD (h.2.2 w rfl), Bool.or_true]
    rw [ho]
    rcases hw with e | e
    · have e' : a = "ask" := e
      rw [e']; decide +kernel
    · have e' : a = "leave" := e
      rw [e']; decide +kernel
  · have e0 : ns = [] := h0
    subst e0
    have ea : a = "word" := hw
    cases o with
    | none => exact absurd rfl hn
    | some w =>
      show (decide (a = "word") && wishD (wiD (some w))) = true
      rw [wish_isD (h.2.2 w rfl), decide_eq_true ea]
      rfl
theorem dp_app {K : PySem.W.Frag} {H : Hp} : ∀ {xs : List V} {ds : List PyData} {v : V} {d : PyData}, DpAll K H xs ds → Dp K H v d → DpAll K H (xs ++ [v]) (ds ++ [d])
  | [], _, _, _, .nil, h => .cons h .nil
  | _ :: _, _, _, _, .cons h1 h2, h => .cons h1 (dp_app h2 h)
theorem dp_wish {K : PySem.W.Frag} {H : Hp} {v : V} : ∀ {o : Option Wi}, WV H v o → Dp K H v (wiD o)
  | none, h => by
    have e : v = .non := h
    rw [e]
    exact .non
  | some w, ⟨p, q, e, e1, e2⟩ => by
    rw [e]
    exact .tup (.inl (.inl e1)) (.cons (.int _) (.cons (.tup (.inl (.inl e2)) (dp_ints _)) .nil))
theorem dp_let {K : PySem.W.Frag} {H : Hp} {p : Addr} {l : Lt} (h : LetAt H p l) : Dp K H (.ref p) (ltD l) := by
  obtain ⟨v, e, w⟩ := h
  exact .tup (.inl (.inl e)) (dp_app (xs := .str l.1 :: l.2.1.map V.int) (.cons (.str _) (dp_ints _)) (dp_wish w))
end K66

set_option Elab.async false
set_option linter.all false
set_option maxRecDepth 100000
namespace K66
open PySem PySem.Spec PyProof.Rows L2 NB

/-! ### rules of a hand -/
def shrd (q : Rl) : Bool := decide (q.1.1 ≠ q.2.1)
def ownS (q : Rl) (i : Nat) : Sd := if q.1.1 = i then q.1 else q.2
def othT (q : Rl) (i : Nat) : Nat := if q.1.1 = i then q.2.1 else q.1.1
def outS (s : Sd) (lo hi : Int) : Int × Int := if s.2.1 then (lo, if s.2.2 - 1 < hi then s.2.2 - 1 else hi) else (if s.2.2 + 1 > lo then s.2.2 + 1 else lo, hi)
def outB (s : Sd) (p : Int) : Bool := decide ((outS s p p).1 ≤ (outS s p p).2)
def wishN (o : Option Wi) : Int := match o with
  | none => 0
  | some w => w.1
def spShrd : Sp := fun vs H Q _ => ∃ (r : Addr) (rl : Rl), vs = [.ref r] ∧ RuleAt H r rl ∧ Q (.bl (shrd rl)) H
def spOwnS : Sp := fun vs H Q _ => ∃ (r : Addr) (rl : Rl) (i : Nat), vs = [.ref r, .int (i : Int)] ∧ RuleAt H r rl ∧ ∀ p, SideAt H p (ownS rl i) → Q (.ref p) H
def spOthT : Sp := fun vs H Q _ => ∃ (r : Addr) (rl : Rl) (i : Nat), vs = [.ref r, .int (i : Int)] ∧ RuleAt H r rl ∧ Q (.int (othT rl i : Nat)) H
def spOutS : Sp := fun vs H Q _ => ∃ (p : Addr) (sd : Sd) (lo hi : Int), vs = [.ref p, .int lo, .int hi] ∧ SideAt H p sd ∧ ∀ H' g, Same H H' → H' g = some (.tup [.int (outS sd lo hi).1, .int (outS sd lo hi).2]) → Q (.ref g) H'
def spOutB : Sp := fun vs H Q _ => ∃ (p : Addr) (sd : Sd) (pl : Int), vs = [.ref p, .int pl] ∧ SideAt H p sd ∧ ∀ H', Same H H' → Q (.bl (outB sd pl)) H'
def spWishN : Sp := fun vs H Q _ => ∃ (v : V) (o : Option Wi), vs = [v] ∧ WV H v o ∧ Q (.int (wishN o)) H
section
variable {P : Program} {w : World} {K : PySem.W.Frag} {mg : Str → Option Value} {base : Heap}
abbrev a_is_shared : Stmt := topS 32
abbrev n_is_shared : List Str := ["rule"]
theorem sc_is_shared : FnScope n_is_shared ["rule"] (defScope a_is_shared) := ⟨rfl, rfl, rfl, by decide +kernel, rfl, by decide +kernel, by decide +kernel⟩
set_option maxHeartbeats 8000000 in
theorem ok_is_shared {f  : Addr} {fd  : FuncData} {k : Nat}  (F : Fun K "is_shared" "is_shared" a_is_shared f fd)    : FnOk P w K mg base CX0 (k + 1) f fd ["rule"] spShrd := by
  refine F.ok sc_is_shared (fun vs H Q E h => ?_) (fun cdv A outer s H vs Q E hr h => ?_)
  · obtain ⟨r, rl, rfl, _⟩ := h
    rfl
  · obtain ⟨r, rl, rfl, hr1, q⟩ := h
    refine ⟨_, (pss_one (ps_ret (pe_cmpR op_ne (pe_ix ix_tup (pe_ix ix_tup (pv 0) pe_int (fun _ _ => rfl)) pe_int (fun _ _ => rfl)) (pe_ix ix_tup (pe_ix ix_tup (pv 0) pe_int (fun _ _ => rfl)) pe_int (fun _ _ => rfl)) (nomark _)))), ?_⟩
    obtain ⟨p1, p2, er, s1, s2⟩ := hr1
    have s1' : H p1 = some (.tup [.int (rl.1.1 : Int), .str (word rl.1.2.1), .int rl.1.2.2]) := s1
    have s2' : H p2 = some (.tup [.int (rl.2.1 : Int), .str (word rl.2.2.1), .int rl.2.2.2]) := s2
    refine ⟨.ref r, rfl, r, _, 0, .ref p1, rfl, rfl, .inl (.inl er), atI_nat (j := 0) rfl, p1, _, 0, _, rfl, rfl, .inl (.inl s1'), atI_nat (j := 0) rfl, .ref r, rfl, r, _, 1, .ref p2, rfl, rfl, .inl (.inl er), atI_nat (j := 1) rfl, p2, _, 0, _, rfl, rfl, .inl (.inl s2'), atI_nat (j := 0) rfl, rfl, ?_⟩
    have e : (!decide (V.int (rl.1.1 : Int) = V.int (rl.2.1 : Int))) = shrd rl := by
      unfold shrd
      by_cases h : rl.1.1 = rl.2.1
      · rw [h]; simp
      · have : ¬ V.int (rl.1.1 : Int) = V.int (rl.2.1 : Int) := fun z => h (by injection z with z; omega)
        simp [this, h]
    rw [e]
    exact q
abbrev a_own_side : Stmt := topS 33
abbrev n_own_side : List Str := ["rule", "thing"]
theorem sc_own_side : FnScope n_own_side ["rule", "thing"] (defScope a_own_side) := ⟨rfl, rfl, rfl, by decide +kernel, rfl, by decide +kernel, by decide +kernel⟩
set_option maxHeartbeats 8000000 in
theorem ok_own_side {f  : Addr} {fd  : FuncData} {k : Nat}  (F : Fun K "own_side" "own_side" a_own_side f fd)    : FnOk P w K mg base CX0 (k + 1) f fd ["rule", "thing"] spOwnS := by
  refine F.ok sc_own_side (fun vs H Q E h => ?_) (fun cdv A outer s H vs Q E hr h => ?_)
  · obtain ⟨r, rl, i, rfl, _⟩ := h
    rfl
  · obtain ⟨r, rl, i, rfl, hr1, q⟩ := h
    refine ⟨_, (pss_one (ps_ret (pe_ifExp (pt_cmpR op_eq (pe_ix ix_tup (pe_ix ix_tup (pv 0) pe_int (fun _ _ => rfl)) pe_int (fun _ _ => rfl)) (pv 1) (nomark _)) (pe_ix ix_tup (pv 0) pe_int (fun _ _ => rfl)) (pe_ix ix_tup (pv 0) pe_int (fun _ _ => rfl))))), ?_⟩
    obtain ⟨p1, p2, er, s1, s2⟩ := hr1
    have s1' : H p1 = some (.tup [.int (rl.1.1 : Int), .str (word rl.1.2.1), .int rl.1.2.2]) := s1
    refine ⟨.ref r, rfl, r, _, 0, .ref p1, rfl, rfl, .inl (.inl er), atI_nat (j := 0) rfl, p1, _, 0, _, rfl, rfl, .inl (.inl s1'), atI_nat (j := 0) rfl, _, rfl, rfl, ?_⟩
    by_cases h : rl.1.1 = i
    · have o := q p1 (by unfold ownS; rw [if_pos h]; exact s1)
      exact ⟨true, congrArg V.bl (decide_eq_true (by rw [h])), iteT ⟨.ref r, rfl, r, _, 0, .ref p1, rfl, rfl, .inl (.inl er), atI_nat (j := 0) rfl, o⟩⟩
    · have o := q p2 (by unfold ownS; rw [if_neg h]; exact s2)
      exact ⟨false, congrArg V.bl (decide_eq_false (fun z => h (by injection z with z; omega))), iteF ⟨.ref r, rfl, r, _, 1, .ref p2, rfl, rfl, .inl (.inl er), atI_nat (j := 1) rfl, o⟩⟩
abbrev a_out_span : Stmt := topS 34
abbrev n_out_span : List Str := ["side", "low", "high", "word", "place"]
theorem sc_out_span : FnScope n_out_span ["side", "low", "high"] (defScope a_out_span) := ⟨rfl, rfl, rfl, by decide +kernel, rfl, by decide +kernel, by decide +kernel⟩
set_option maxHeartbeats 8000000 in
theorem ok_out_span {f  : Addr} {fd  : FuncData} {k : Nat}  (F : Fun K "out_span" "out_span" a_out_span f fd)   (m_max : mg "max" = none) (m_min : mg "min" = none) : FnOk P w K mg base CX0 (k + 1) f fd ["side", "low", "high"] spOutS := by
  refine F.ok sc_out_span (fun vs H Q E h => ?_) (fun cdv A outer s H vs Q E hr h => ?_)
  · obtain ⟨p, sd, lo, hi, rfl, _⟩ := h
    rfl
  · obtain ⟨p, sd, lo, hi, rfl, es, q⟩ := h
    refine ⟨_, (pss_cons (ps_par (i := 3) (j := 4) (by rfl) sc_out_span.nd rfl rfl (by decide) rfl rfl (pa_cons (pe_ix ix_tup (pv 0) pe_int (fun _ _ => rfl)) (pa_cons (pe_ix ix_tup (pv 0) pe_int (fun _ _ => rfl)) pa_nil)) (by rfl))
      (pss_cons (ps_if (pt_cmpR op_eq (pv 3) pe_str (nomark _)) (pss_one (ps_ret (pe_tup (pa_cons (pv 1) (pa_cons (pe_callB (call_min2 rfl) (by rfl) m_min (by decide +kernel) (pa_cons (pv 2) (pa_cons (pe_op op_sub (pv 4) pe_int) pa_nil))) pa_nil))))) pss_nil)
      (pss_one (ps_ret (pe_tup (pa_cons (pe_callB (call_max2 rfl) (by rfl) m_max (by decide +kernel) (pa_cons (pv 1) (pa_cons (pe_op op_add (pv 4) pe_int) pa_nil))) (pa_cons (pv 2) pa_nil))))))), ?_⟩
    have es' : H p = some (.tup [.int (sd.1 : Int), .str (word sd.2.1), .int sd.2.2]) := es
    unfold outS at q
    refine ⟨.ref p, rfl, p, _, 1, _, rfl, rfl, .inl (.inl es'), atI_nat (j := 1) rfl, .ref p, rfl, p, _, 2, _, rfl, rfl, .inl (.inl es'), atI_nat (j := 2) rfl, _, _, rfl, ?_⟩
    dsimp only [List.set]
    obtain ⟨n, b, pl⟩ := sd
    refine ⟨_, rfl, rfl, b, ?_, ?_⟩
    · show V.bl (decide (V.str (word b) = V.str "from")) = V.bl b
      cases b <;> decide +kernel
    · cases b with
      | true =>
        refine iteT ⟨_, rfl, _, rfl, _, rfl, pl, 1, rfl, rfl, hi, pl - 1, rfl, (show 2 ≤ sizeLine by decide), fun g ng => ?_⟩
        exact q _ g (same_new ng) upd_same
      | false =>
        refine iteF ⟨_, rfl, _, rfl, pl, 1, rfl, rfl, lo, pl + 1, rfl, _, rfl, (show 2 ≤ sizeLine by decide), fun g ng => ?_⟩
        exact q _ g (same_new ng) upd_same
abbrev a_is_out_at : Stmt := topS 35
abbrev n_is_out_at : List Str := ["side", "place", "least", "most"]
theorem sc_is_out_at : FnScope n_is_out_at ["side", "place"] (defScope a_is_out_at) := ⟨rfl, rfl, rfl, by decide +kernel, rfl, by decide +kernel, by decide +kernel⟩
set_option maxHeartbeats 8000000 in
theorem ok_is_out_at {f fOs : Addr} {fd fdOs : FuncData} {k : Nat}  (F : Fun K "is_out_at" "is_out_at" a_is_out_at f fd) (Os : Kn P w K mg base 1 "out_span" ["side", "low", "high"] spOutS fOs fdOs)   : FnOk P w K mg base CX0 (k + 2) f fd ["side", "place"] spOutB := by
  refine F.ok sc_is_out_at (fun vs H Q E h => ?_) (fun cdv A outer s H vs Q E hr h => ?_)
  · obtain ⟨p, sd, pl, rfl, _⟩ := h
    rfl
  · obtain ⟨p, sd, pl, rfl, es, q⟩ := h
    refine ⟨_, (pss_cons (ps_asg (pe_kn Os hr (by omega) (pa_cons (pv 0) (pa_cons (pv 1) (pa_cons (pv 1) pa_nil)))) (pg_tup rfl (pgs_cons (pg_name (i := 2) sc_is_out_at.nd rfl (.inl rfl)) (pgs_cons (pg_name (i := 3) sc_is_out_at.nd rfl (.inl rfl)) pgs_nil))))
      (pss_one (ps_ret (pe_cmpR op_le (pv 2) (pv 3) (nomark _))))), ?_⟩
    refine ⟨_, rfl, _, rfl, _, rfl, p, sd, pl, pl, rfl, es, fun H1 g s1 eg => ?_⟩
    refine ⟨g, _, rfl, .inl (.inl eg), rfl, _, _, rfl, _, _, rfl, rfl, ?_⟩
    exact ⟨_, rfl, _, rfl, _, _, rfl, rfl, q H1 s1⟩
end
end K66

set_option Elab.async false
set_option linter.all false
set_option maxRecDepth 100000
/-! d[k] op= v: what is read. -/
namespace NB
open PySem PySem.Spec PyProof.Rows L2
theorem get_dictK {X : Cx} (hu : X.A.units + 1 < cLine) : PGet X (fun x y H Q => ∃ a v, x = .ref a ∧ DGet H a y (some v) ∧ Q v H) := by
  intro pins s σ H o i ov iv Q I ro ri h
  obtain ⟨a, v, rfl, g, q⟩ := h
  cases ro
  exact d_getItem hu I g ri fun w' s' I' r => ⟨v, H, I', r, q⟩
end NB

set_option Elab.async false
set_option linter.all false
set_option maxRecDepth 100000
namespace K66
open PySem PySem.Spec PyProof.Rows L2 NB

/-! ### a hand -/
structure Hd where
  thing : Nat
  place : Int
  wish : Option Wi
  rows : List (Int × Rl × Int)
def look (rows : List (Int × Rl × Int)) (n : Int) : Option (Rl × Int) := (rows.find? fun r => decide (r.1 = n)).map (·.2)
def kvT (rows : List (Int × Rl × Int)) : List (Key × V) := rows.map fun r => (Sum.inl r.1, V.int r.2.2)
def kvH (hs : List (Int × Addr)) : List (Key × V) := hs.map fun z => (Sum.inl z.1, V.ref z.2)
def Held (H : Hp) : List (Int × Addr) → List (Int × Rl × Int) → Prop
  | [], [] => True
  | z :: hs, r :: rows => z.1 = r.1 ∧ RuleAt H z.2 r.2.1 ∧ Held H hs rows
  | _, _ => False
theorem Held.keep {H H' : Hp} (k : Keep H H') : ∀ {hs : List (Int × Addr)} {rows : List (Int × Rl × Int)}, Held H hs rows → Held H' hs rows
  | [], [], _ => trivial
  | _ :: _, _ :: _, ⟨a, b, c⟩ => ⟨a, b.keep k, c.keep k⟩
  | [], _ :: _, h => h.elim
  | _ :: _, [], h => h.elim
theorem Held.keys {H : Hp} : ∀ {hs : List (Int × Addr)} {rows : List (Int × Rl × Int)}, Held H hs rows → hs.map (·.1) = rows.map (·.1)
  | [], [], _ => rfl
  | z :: hs, r :: rows, ⟨a, _, c⟩ => by rw [List.map_cons, List.map_cons, a, c.keys]
  | [], _ :: _, h => h.elim
  | _ :: _, [], h => h.elim
theorem look_cons (r : Int × Rl × Int) (rows : List (Int × Rl × Int)) (n : Int) : look (r :: rows) n = if r.1 = n then some r.2 else look rows n := by
  unfold look
  rw [List.find?_cons]
  by_cases h : r.1 = n
  · simp [h]
  · simp [h]
theorem valT (rows : List (Int × Rl × Int)) (n : Int) : valV (kvT rows) (Sum.inl n) = (look rows n).map fun z => V.int z.2 := by
  induction rows with
  | nil => rfl
  | cons r rows ih =>
    rw [look_cons]
    unfold kvT valV at ih ⊢
    rw [List.map_cons, List.find?_cons]
    by_cases h : r.1 = n
    · simp [h]
    · have : ¬ ((Sum.inl r.1 : Key) = Sum.inl n) := fun z => h (Sum.inl.inj z)
      simp only [this, h, decide_false, if_false]
      exact ih
theorem valH {H : Hp} (n : Int) : ∀ {hs : List (Int × Addr)} {rows : List (Int × Rl × Int)}, Held H hs rows →
    (look rows n = none ∧ valV (kvH hs) (Sum.inl n) = none) ∨ ∃ q c a, look rows n = some (q, c) ∧ valV (kvH hs) (Sum.inl n) = some (V.ref a) ∧ RuleAt H a q
  | [], [], _ => .inl ⟨rfl, rfl⟩
  | z :: hs, r :: rows, ⟨a, b, c⟩ => by
    have ih := valH n c
    have e : valV (kvH (z :: hs)) (Sum.inl n) = if r.1 = n then some (V.ref z.2) else valV (kvH hs) (Sum.inl n) := by
      unfold kvH valV
      rw [List.map_cons, List.find?_cons]
      by_cases h : r.1 = n
      · simp [h, a]
      · have : ¬ ((Sum.inl z.1 : Key) = Sum.inl n) := fun w => h (a ▸ Sum.inl.inj w)
        simp only [this, h, decide_false, if_false]
    rw [look_cons, e]
    by_cases h : r.1 = n
    · rw [if_pos h, if_pos h]
      exact .inr ⟨r.2.1, r.2.2, z.2, rfl, rfl, b⟩
    · rw [if_neg h, if_neg h]
      exact ih
  | [], _ :: _, h => h.elim
  | _ :: _, [], h => h.elim
theorem rs {H H' : Hp} {a : Addr} {u : HO} (s : Same H H') (e : Rd H a u) : Rd H' a u := by
  rcases e with e | ⟨od, e⟩
  · exact .inl (s _ _ e)
  · exact .inr ⟨od, s _ _ e⟩
theorem DGr {H : Hp} {a : Addr} {kvs : List (Key × V)} {k : Key} (e : Rd H a (.dK kvs)) : DGet H a (kV k) (valV kvs k) := .inl ⟨kvs, k, e, rfl, rfl⟩
theorem ru {H : Hp} {a b : Addr} {u o : HO} (n : a ≠ b) (e : Rd H a u) : Rd (upd H b o) a u := by
  rcases e with e | ⟨od, e⟩
  · exact .inl ((upd_ne n).trans e)
  · exact .inr ⟨od, (upd_ne n).trans e⟩
theorem rn {H : Hp} {a b C dx : Addr} {kvs : List (Key × V)} {fs : List (Str × V)} (e : Rd H a (.dK kvs)) (i : H b = some (.ins C dx fs)) : a ≠ b := fun z => by
  rcases e with e | ⟨od, e⟩ <;> (rw [z, i] at e; cases e)
def HandF (C : Addr) (H : Hp) (x dx : Addr) (v : V) (D T : Addr) (h : Hd) : Prop := H x = some (.ins C dx [("thing", .int (h.thing : Int)), ("place", .int h.place), ("wish", v), ("held", .ref D), ("tally", .ref T)])
def HandAt (C : Addr) (H : Hp) (x D T : Addr) (h : Hd) : Prop := ∃ dx v hs, HandF C H x dx v D T h ∧ WV H v h.wish ∧ Rd H D (.dK (kvH hs)) ∧ H T = some (.dK (kvT h.rows)) ∧ Held H hs h.rows
theorem HandAt.same {C : Addr} {H H' : Hp} {x D T : Addr} {h : Hd} (a : HandAt C H x D T h) (s : Same H H') : HandAt C H' x D T h := by
  obtain ⟨dx, v, hs, e, w, d, t, l⟩ := a
  exact ⟨dx, v, hs, s _ _ e, w.keep (.same s), rs s d, s _ _ t, l.keep (.same s)⟩
structure HandTxt (K : PySem.W.Frag) (C : Addr) : Prop where
  cl : Cls K C
  n1 : NoAttr K C "thing"
  n2 : NoAttr K C "place"
  n3 : NoAttr K C "wish"
  n4 : NoAttr K C "held"
  n5 : NoAttr K C "tally"
section
variable {i p v d t : V}
theorem lk1 : ([("thing", i), ("place", p), ("wish", v), ("held", d), ("tally", t)] : List (Str × V)).lookup ("thing" : Str) = some i := by
  simp [List.lookup]
theorem lk2 : ([("thing", i), ("place", p), ("wish", v), ("held", d), ("tally", t)] : List (Str × V)).lookup ("place" : Str) = some p := by
  have n1 : (("place" : Str) == "thing") = false := by decide +kernel
  simp [List.lookup, n1]
theorem lk3 : ([("thing", i), ("place", p), ("wish", v), ("held", d), ("tally", t)] : List (Str × V)).lookup ("wish" : Str) = some v := by
  have n1 : (("wish" : Str) == "thing") = false := by decide +kernel
  have n2 : (("wish" : Str) == "place") = false := by decide +kernel
  simp [List.lookup, n1, n2]
theorem lk4 : ([("thing", i), ("place", p), ("wish", v), ("held", d), ("tally", t)] : List (Str × V)).lookup ("held" : Str) = some d := by
  have n1 : (("held" : Str) == "thing") = false := by decide +kernel
  have n2 : (("held" : Str) == "place") = false := by decide +kernel
  have n3 : (("held" : Str) == "wish") = false := by decide +kernel
  simp [List.lookup, n1, n2, n3]
theorem lk5 : ([("thing", i), ("place", p), ("wish", v), ("held", d), ("tally", t)] : List (Str × V)).lookup ("tally" : Str) = some t := by
  have n1 : (("tally" : Str) == "thing") = false := by decide +kernel
  have n2 : (("tally" : Str) == "place") = false := by decide +kernel
  have n3 : (("tally" : Str) == "wish") = false := by decide +kernel
  have n4 : (("tally" : Str) == "held") = false := by decide +kernel
  simp [List.lookup, n1, n2, n3, n4]
theorem lkm {m : Str} (h1 : (m == "thing") = false := by decide +kernel) (h2 : (m == "place") = false := by decide +kernel) (h3 : (m == "wish") = false := by decide +kernel) (h4 : (m == "held") = false := by decide +kernel) (h5 : (m == "tally") = false := by decide +kernel) :
    ([("thing", i), ("place", p), ("wish", v), ("held", d), ("tally", t)] : List (Str × V)).lookup m = none := by
  simp [List.lookup, h1, h2, h3, h4, h5]
end
def Hd.shares (h : Hd) (n : Int) : Bool := match look h.rows n with
  | some z => shrd z.1
  | none => false
def leaveB (i : Nat) (q : Rl) (c : Int) : Bool := decide (c % 2 = 0) == decide (q.1.1 = i)
def Hd.goal (h : Hd) : Int := match h.wish with
  | none => h.place
  | some w => w.2.getD h.thing 0
def spShares (C : Addr) : Sp := fun vs H Q _ => ∃ (x D T : Addr) (h : Hd) (n : Int), vs = [.ref x, .int n] ∧ HandAt C H x D T h ∧ ∀ H', Same H H' → Q (.bl (h.shares n)) H'
def spCount (C : Addr) : Sp := fun vs H Q _ => ∃ (x D T : Addr) (h : Hd) (n : Int) (rl : Rl) (c : Int), vs = [.ref x, .int n] ∧ HandAt C H x D T h ∧ look h.rows n = some (rl, c) ∧ shrd rl = true ∧ ∀ H', Same H H' → Q (.int c) H'
def spLeave (C : Addr) : Sp := fun vs H Q _ => ∃ (x D T : Addr) (h : Hd) (n : Int) (rl : Rl) (c : Int), vs = [.ref x, .int n] ∧ HandAt C H x D T h ∧ look h.rows n = some (rl, c) ∧ shrd rl = true ∧ ∀ H', Same H H' → Q (.bl (leaveB h.thing rl c)) H'
def spGoal (C : Addr) : Sp := fun vs H Q _ => ∃ (x D T : Addr) (h : Hd), vs = [.ref x] ∧ HandAt C H x D T h ∧ (∀ w, h.wish = some w → h.thing < w.2.length) ∧ Q (.int h.goal) H
def spHasPl (C : Addr) : Sp := fun vs H Q _ => ∃ (x D T : Addr) (h : Hd) (v : V) (o : Option Wi), vs = [.ref x, v] ∧ HandAt C H x D T h ∧ WV H v o ∧ Q (.bl (match o with | none => true | some w => decide (h.thing < w.2.length))) H
section
variable {P : Program} {w : World} {K : PySem.W.Frag} {mg : Str → Option Value} {base : Heap}
abbrev a_Hand_shares : Stmt := inClass (topS 36) 1
abbrev n_Hand_shares : List Str := ["self", "number"]
theorem sc_Hand_shares : FnScope n_Hand_shares ["self", "number"] (defScope a_Hand_shares) := ⟨rfl, rfl, rfl, by decide +kernel, rfl, by decide +kernel, by decide +kernel⟩
set_option maxHeartbeats 8000000 in
theorem ok_Hand_shares {f fWh fIs : Addr} {fd fdWh fdIs : FuncData} {k : Nat} {C : Addr} (F : Fun K "shares" "Hand.shares" a_Hand_shares f fd) (Wh : Kn P w K mg base 1 "is_whole" ["thing"] (spLook wholeD) fWh fdWh) (Is : Kn P w K mg base 1 "is_shared" ["rule"] spShrd fIs fdIs) (X : HandTxt K C)  : FnOk P w K mg base CX0 (k + 3) f fd ["self", "number"] (spShares C) := by
  refine F.ok sc_Hand_shares (fun vs H Q E h => ?_) (fun cdv A outer s H vs Q E hr h => ?_)
  · obtain ⟨x, D, T, h, n, rfl, _⟩ := h
    rfl
  · obtain ⟨x, D, T, h, n, rfl, ha, q⟩ := h
    refine ⟨_, (pss_one (ps_ret (pe_and (pe_kn Wh hr (by omega) (pa_cons (pv 1) pa_nil)) (pe_and (pe_cmp (pc_din (hu_of hr) (pv 1) (pe_fld (pv 0) rfl))) (pe_one (pe_kn Is hr (by omega) (pa_cons (pe_dget (hu_of hr) (pe_fld (pv 0) rfl) (pv 1) (fun _ _ => rfl)) pa_nil))))))), ?_⟩
    obtain ⟨dx, v, hs, e, w1, d, t, l⟩ := ha
    have e' : H x = some (.ins C dx [("thing", .int (h.thing : Int)), ("place", .int h.place), ("wish", v), ("held", .ref D), ("tally", .ref T)]) := e
    refine ⟨_, rfl, 0, .int n, _, rfl, .int n, fun H1 s1 => ⟨true, rfl, iteT ?_⟩⟩
    have e1 := s1 _ _ e'
    have d1 := rs s1 d
    have l1 := l.keep (.same s1)
    have q1 := q H1 s1
    unfold Hd.shares at q1
    refine ⟨_, rfl, .ref x, rfl, x, C, dx, _, _, rfl, e1, X.cl, X.n4, lk4, D, valV (kvH hs) (.inl n), rfl, DGr (k := .inl n) d1, _, rfl, ?_⟩
    rcases valH n l1 with ⟨a1, a2⟩ | ⟨q', c, a, a1, a2, a3⟩
    · rw [a1] at q1
      rw [a2]
      exact iteF q1
    · rw [a1] at q1
      rw [a2]
      exact iteT ⟨.ref x, rfl, x, C, dx, _, _, rfl, e1, X.cl, X.n4, lk4, _, rfl, D, .ref a, rfl, a2 ▸ DGr (k := .inl n) d1, a, q', rfl, a3, q1⟩
abbrev a_Hand_count_of : Stmt := inClass (topS 36) 3
abbrev n_Hand_count_of : List Str := ["self", "number"]
theorem sc_Hand_count_of : FnScope n_Hand_count_of ["self", "number"] (defScope a_Hand_count_of) := ⟨rfl, rfl, rfl, by decide +kernel, rfl, by decide +kernel, by decide +kernel⟩
set_option maxHeartbeats 8000000 in
theorem ok_Hand_count_of {f  : Addr} {fd  : FuncData} {k : Nat} {C : Addr} (F : Fun K "count_of" "Hand.count_of" a_Hand_count_of f fd) (Sh : C8.Met P w K mg base 3 C "shares" (spShares C) []) (X : HandTxt K C)  : FnOk P w K mg base CX0 (k + 4) f fd ["self", "number"] (spCount C) := by
  refine F.ok sc_Hand_count_of (fun vs H Q E h => ?_) (fun cdv A outer s H vs Q E hr h => ?_)
  · obtain ⟨x, D, T, h, n, rl, c, rfl, _⟩ := h
    rfl
  · obtain ⟨x, D, T, h, n, rl, c, rfl, ha, hl, hs0, q⟩ := h
    refine ⟨_, (pss_cons (ps_if (pt_not (pt_val (C8.pe_mt Sh hr (by omega) (pv 0) (pa_cons (pv 1) pa_nil)))) (pss_one (ps_never)) pss_nil)
      (pss_one (ps_ret (pe_dget (hu_of hr) (pe_fld (pv 0) rfl) (pv 1) (fun _ _ => rfl))))), ?_⟩
    have sh : h.shares n = true := by
      unfold Hd.shares
      rw [hl]
      exact hs0
    have ha0 := ha
    obtain ⟨dx, v, hs, e, w1, d, t, l⟩ := ha
    refine ⟨.ref x, rfl, x, dx, _, rfl, e, lkm, .int n, rfl, x, D, T, h, n, rfl, ha0, fun H1 s1 => ⟨true, congrArg V.bl sh, iteF ?_⟩⟩
    have vt : valV (kvT h.rows) (Sum.inl n) = some (V.int c) := by
      rw [valT, hl]
      rfl
    exact ⟨.ref x, rfl, x, C, dx, _, _, rfl, s1 _ _ e, X.cl, X.n5, lk5, .int n, rfl, T, .int c, rfl, vt ▸ DGet.k (k := .inl n) (s1 _ _ t), q H1 s1⟩
abbrev a_Hand_has_leave : Stmt := inClass (topS 36) 4
abbrev n_Hand_has_leave : List Str := ["self", "number", "even"]
theorem sc_Hand_has_leave : FnScope n_Hand_has_leave ["self", "number"] (defScope a_Hand_has_leave) := ⟨rfl, rfl, rfl, by decide +kernel, rfl, by decide +kernel, by decide +kernel⟩
set_option maxHeartbeats 8000000 in
theorem ok_Hand_has_leave {f  : Addr} {fd  : FuncData} {k : Nat} {C : Addr} (F : Fun K "has_leave" "Hand.has_leave" a_Hand_has_leave f fd) (Co : C8.Met P w K mg base 4 C "count_of" (spCount C) []) (X : HandTxt K C)  : FnOk P w K mg base CX0 (k + 5) f fd ["self", "number"] (spLeave C) := by
  refine F.ok sc_Hand_has_leave (fun vs H Q E h => ?_) (fun cdv A outer s H vs Q E hr h => ?_)
  · obtain ⟨x, D, T, h, n, rl, c, rfl, _⟩ := h
    rfl
  · obtain ⟨x, D, T, h, n, rl, c, rfl, ha, hl, hs0, q⟩ := h
    refine ⟨_, (pss_cons (ps_set (i := 2) sc_Hand_has_leave.nd rfl (.inl rfl) (pe_cmpR op_eq (pe_op op_mod (C8.pe_mt Co hr (by omega) (pv 0) (pa_cons (pv 1) pa_nil)) pe_int) pe_int (nomark _)))
      (pss_one (ps_ret (pe_cmpR op_eq (pv 2) (pe_cmpR op_eq (pe_ix ix_tup (pe_ix ix_tup (pe_dget (hu_of hr) (pe_fld (pv 0) rfl) (pv 1) (fun _ _ => rfl)) pe_int (fun _ _ => rfl)) pe_int (fun _ _ => rfl)) (pe_fld (pv 0) rfl) (nomark _)) (nomark _))))), ?_⟩
    have ha0 := ha
    obtain ⟨dx, v, hs, e, w1, d, t, l⟩ := ha
    refine ⟨.ref x, rfl, x, dx, _, rfl, e, lkm, .int n, rfl, x, D, T, h, n, rl, c, rfl, ha0, hl, hs0, fun H1 s1 => ?_⟩
    refine ⟨c, 2, rfl, rfl, (show (0 : Int) < 2 by decide), rfl, ?_⟩
    have l1 := l.keep (.same s1)
    rcases valH n l1 with ⟨a1, a2⟩ | ⟨q', c', a, a1, a2, a3⟩
    · rw [hl] at a1
      cases a1
    rw [hl] at a1
    cases a1
    obtain ⟨p1, p2, er, g1, g2⟩ := a3
    have g1' : H1 p1 = some (.tup [.int (rl.1.1 : Int), .str (word rl.1.2.1), .int rl.1.2.2]) := g1
    dsimp only [List.set]
    refine ⟨_, rfl, .ref x, rfl, x, C, dx, _, _, rfl, s1 _ _ e, X.cl, X.n4, lk4, .int n, rfl, D, .ref a, rfl, a2 ▸ DGr (k := .inl n) (rs s1 d), a, _, 0, .ref p1, rfl, rfl, .inl (.inl er), atI_nat (j := 0) rfl, p1, _, 0, _, rfl, rfl, .inl (.inl g1'), atI_nat (j := 0) rfl, .ref x, rfl, x, C, dx, _, _, rfl, s1 _ _ e, X.cl, X.n1, lk1, rfl, rfl, ?_⟩
    have e2 : decide (V.bl (decide (V.int (c % 2) = V.int 0)) = V.bl (decide (V.int (rl.1.1 : Int) = V.int (h.thing : Int)))) = leaveB h.thing rl c := by
      unfold leaveB
      have f1 : decide (V.int (c % 2) = V.int 0) = decide (c % 2 = 0) := decide_eq_decide.mpr ⟨fun z => by injection z, fun z => by rw [z]⟩
      have f2 : decide (V.int (rl.1.1 : Int) = V.int (h.thing : Int)) = decide (rl.1.1 = h.thing) := decide_eq_decide.mpr ⟨fun z => by injection z with z; omega, fun z => by rw [z]⟩
      rw [f1, f2, dec_bl]
    rw [e2]
    exact q H1 s1
abbrev a_Hand_wished_place : Stmt := inClass (topS 36) 7
abbrev n_Hand_wished_place : List Str := ["self"]
theorem sc_Hand_wished_place : FnScope n_Hand_wished_place ["self"] (defScope a_Hand_wished_place) := ⟨rfl, rfl, rfl, by decide +kernel, rfl, by decide +kernel, by decide +kernel⟩
set_option maxHeartbeats 8000000 in
theorem ok_Hand_wished_place {f  : Addr} {fd  : FuncData} {k : Nat} {C : Addr} (F : Fun K "wished_place" "Hand.wished_place" a_Hand_wished_place f fd)  (X : HandTxt K C)  : FnOk P w K mg base CX0 (k + 1) f fd ["self"] (spGoal C) := by
  refine F.ok sc_Hand_wished_place (fun vs H Q E h => ?_) (fun cdv A outer s H vs Q E hr h => ?_)
  · obtain ⟨x, D, T, h, rfl, _⟩ := h
    rfl
  · obtain ⟨x, D, T, h, rfl, ha, hw, q⟩ := h
    refine ⟨_, (pss_one (ps_ret (pe_ifExp (pt_cmpR op_isN (pe_fld (pv 0) rfl) pe_non (nomark _)) (pe_fld (pv 0) rfl) (pe_ix ix_tup (pe_ix ix_tup (pe_fld (pv 0) rfl) pe_int (fun _ _ => rfl)) (pe_fld (pv 0) rfl) (fun _ _ => rfl))))), ?_⟩
    obtain ⟨dx, v, hs, e, w1, d, t, l⟩ := ha
    unfold Hd.goal at q
    cases hh : h.wish with
    | none =>
      rw [hh] at w1 q
      obtain rfl : v = .non := w1
      exact ⟨.ref x, rfl, x, C, dx, _, _, rfl, e, X.cl, X.n3, lk3, rfl, true, congrArg V.bl (decide_eq_true rfl), iteT ⟨.ref x, rfl, x, C, dx, _, _, rfl, e, X.cl, X.n2, lk2, q⟩⟩
    | some w =>
      have hl := hw w hh
      rw [hh] at w1 q
      obtain ⟨p, g, rfl, ep, eg⟩ := w1
      refine ⟨.ref x, rfl, x, C, dx, _, _, rfl, e, X.cl, X.n3, lk3, rfl, false, congrArg V.bl (decide_eq_false (fun z => by cases z)), iteF ?_⟩
      refine ⟨.ref x, rfl, x, C, dx, _, _, rfl, e, X.cl, X.n3, lk3, p, _, 1, _, rfl, rfl, .inl (.inl ep), atI_nat (j := 1) rfl, .ref x, rfl, x, C, dx, _, _, rfl, e, X.cl, X.n1, lk1, g, _, (h.thing : Int), .int (w.2.getD h.thing 0), rfl, rfl, .inl (.inl eg), atI_nat ?_, q⟩
      rw [List.getElem?_map, List.getElem?_eq_getElem hl, List.getD_eq_getElem?_getD, List.getElem?_eq_getElem hl]
      rfl
end
end K66

set_option Elab.async false
set_option linter.all false
set_option maxRecDepth 100000
namespace K66
open PySem PySem.Spec PyProof.Rows L2 NB

theorem tif_join {c : Bool} {v : V} {ta tb : TE} {σ : L2.St} {H : Hp} {K : VK} (ha : c = true → ∀ Q : VK, Q v H → ta σ H Q) (hb : ¬ c = true → ∀ Q : VK, Q v H → tb σ H Q) (q : K v H) : if c = true then ta σ H K else tb σ H K := by
  cases c with
  | true => exact ha rfl K q
  | false => exact hb (by simp) K q

/-! ### what a hand lacks -/
def ShL (h : Hd) (ys : List Int) : Prop := ∃ zs : List Int, zs.Perm (h.rows.map (·.1)) ∧ zs.Pairwise (· ≤ ·) ∧ ys = zs.filter h.shares
def Hd.lv (h : Hd) (n : Int) : Bool := match look h.rows n with
  | some z => leaveB h.thing z.1 z.2
  | none => true
def Hd.there (h : Hd) : Int := if h.place < h.goal then h.place + 1 else h.place - 1
def Hd.ou (h : Hd) (n : Int) : Bool := match look h.rows n with
  | some z => outB (ownS z.1 h.thing) h.there
  | none => false
def LkL (h : Hd) (ys : List Int) : Prop := (h.goal = h.place ∧ ys = []) ∨ (h.goal ≠ h.place ∧ ∃ ss, ShL h ss ∧ ys = (ss.filter fun n => !h.lv n).filter h.ou)
theorem filter_take {f : Int → Bool} {zs : List Int} {i : Nat} {z : Int} (e : zs[i]? = some z) : (zs.take (i + 1)).filter f = (zs.take i).filter f ++ if f z = true then [z] else [] := by
  rw [List.take_add_one, e, List.filter_append]
  congr 1
  show [z].filter f = _
  cases h : f z <;> simp [h]
theorem look_of {rows : List (Int × Rl × Int)} {n : Int} (h : n ∈ rows.map (·.1)) : ∃ q c, look rows n = some (q, c) := by
  induction rows with
  | nil => cases h
  | cons r rows ih =>
    rw [look_cons]
    by_cases e : r.1 = n
    · rw [if_pos e]; exact ⟨_, _, rfl⟩
    · rw [if_neg e]
      rw [List.map_cons] at h
      rcases List.mem_cons.mp h with h | h
      · exact absurd h.symm e
      · exact ih h
theorem ShL.mem {h : Hd} {ys : List Int} (s : ShL h ys) {n : Int} (hn : n ∈ ys) : ∃ q c, look h.rows n = some (q, c) ∧ shrd q = true := by
  obtain ⟨zs, p, _, rfl⟩ := s
  obtain ⟨h1, h2⟩ := List.mem_filter.mp hn
  obtain ⟨q, c, e⟩ := look_of ((p.mem_iff).mp h1)
  refine ⟨q, c, e, ?_⟩
  unfold Hd.shares at h2
  rw [e] at h2
  exact h2
theorem ShL.len {h : Hd} {ys : List Int} (s : ShL h ys) : ys.length ≤ h.rows.length := by
  obtain ⟨zs, p, _, rfl⟩ := s
  have := List.length_filter_le h.shares zs
  have := p.length_eq
  rw [List.length_map] at this
  omega
theorem LkL.len {h : Hd} {ys : List Int} (s : LkL h ys) : ys.length ≤ h.rows.length := by
  rcases s with ⟨_, rfl⟩ | ⟨_, ss, s, rfl⟩
  · exact Nat.zero_le _
  · have := s.len
    have := List.length_filter_le h.ou (ss.filter fun n => !h.lv n)
    have := List.length_filter_le (fun n => !h.lv n) ss
    omega
theorem LkL.mem {h : Hd} {ys : List Int} (s : LkL h ys) {n : Int} (hn : n ∈ ys) : ∃ q c, look h.rows n = some (q, c) ∧ shrd q = true := by
  rcases s with ⟨_, rfl⟩ | ⟨_, ss, s, rfl⟩
  · cases hn
  · exact s.mem (List.mem_filter.mp (List.mem_filter.mp hn).1).1
def spShL (C : Addr) : Sp := fun vs H Q _ => ∃ (x D T : Addr) (h : Hd), vs = [.ref x] ∧ HandAt C H x D T h ∧ h.rows.length ≤ 40 ∧ ∀ H' g ys, Same H H' → H' g = some (.lst (ys.map V.int)) → ShL h ys → Q (.ref g) H'
def spLkL (C : Addr) : Sp := fun vs H Q _ => ∃ (x D T : Addr) (h : Hd), vs = [.ref x] ∧ HandAt C H x D T h ∧ h.rows.length ≤ 40 ∧ (∀ w, h.wish = some w → h.thing < w.2.length) ∧ ∀ H' g ys, Same H H' → H' g = some (.tup (ys.map V.int)) → LkL h ys → Q (.ref g) H'
section
variable {P : Program} {w : World} {K : PySem.W.Frag} {mg : Str → Option Value} {base : Heap}
abbrev a_Hand_shared : Stmt := inClass (topS 36) 2
abbrev n_Hand_shared : List Str := ["self", "number"]
theorem sc_Hand_shared : FnScope n_Hand_shared ["self"] (defScope a_Hand_shared) := ⟨rfl, rfl, rfl, by decide +kernel, rfl, by decide +kernel, by decide +kernel⟩
set_option maxHeartbeats 8000000 in
theorem ok_Hand_shared {f fIs : Addr} {fd fdIs : FuncData} {k : Nat} {C : Addr} (F : Fun K "shared" "Hand.shared" a_Hand_shared f fd) (Is : Kn P w K mg base 1 "is_shared" ["rule"] spShrd fIs fdIs) (X : HandTxt K C) (m_sorted : mg "sorted" = none) : FnOk P w K mg base CX0 (k + 2) f fd ["self"] (spShL C) := by
  refine F.ok sc_Hand_shared (fun vs H Q E h => ?_) (fun cdv A outer s H vs Q E hr h => ?_)
  · obtain ⟨x, D, T, h, rfl, _⟩ := h
    rfl
  · obtain ⟨x, D, T, h, rfl, ha, l40, q⟩ := h
    refine ⟨_, (pss_one (ps_ret (
        pe_lc (own := [("number", 1)]) (g := (gName 1)) (tt := (tB (tCall spShrd [] E0 (tCons (tDGet (tFld K (tVar 0) "held") (tVar 1)) tNil)))) (te := (tVar 1)) rfl sc_Hand_shared.nd (pi_list (pe_callB (call_sortedDI rfl) (by rfl) m_sorted (by decide +kernel) (pa_cons (pe_fld (pv 0) rfl) pa_nil))) (blkOk_by (N := n_Hand_shared) (sc := defScope a_Hand_shared) (by decide +kernel))
          (fun _ _ _ _ _ => (pg_name (i := 1) sc_Hand_shared.nd rfl (.inl rfl) (hf := .inr rfl))) (fun _ _ _ _ _ => pts_one (pt_val (pe_kn Is hr (by omega) (pa_cons (pe_dget (hu_of hr) (pe_fld (pv 0) rfl) (pv 1) (fun _ _ => rfl)) pa_nil)))) (fun _ _ _ _ _ => (pv 1))))), ?_⟩
    obtain ⟨dx, v, hs, e, w1, d, t, l⟩ := ha
    have ky : (kvH hs).map (·.1) = (h.rows.map (·.1)).map Sum.inl := by
      rw [← l.keys]
      unfold kvH
      rw [List.map_map, List.map_map]
      rfl
    refine ⟨.ref x, rfl, x, C, dx, _, _, rfl, e, X.cl, X.n4, lk4, D, kvH hs, h.rows.map (·.1), rfl, d, ky, by rw [List.length_map]; omega, fun zs L pm pw nL => ?_⟩
    have s1 := same_new (o := .lst (zs.map V.int)) nL
    have eL : (upd H L (.lst (zs.map V.int))) L = some (.lst (zs.map V.int)) := upd_same
    generalize upd H L (.lst (zs.map V.int)) = H1 at s1 eL ⊢
    have lz : zs.length ≤ 40 := by
      have := pm.length_eq
      rw [List.length_map] at this
      omega
    refine ⟨L, rfl, ⟨_, .inl (.inl eL)⟩, fun G nG => lc_it (walk_list (xs := zs.map V.int)) (fun i H' => Same H1 H' ∧ H' G = some (.lst (((zs.take i).filter h.shares).map V.int))) ⟨same_new nG, upd_same⟩ (fun i H' _ p => .inl (.inl (p.1 _ _ eL))) (fun i u H2 H3 hi p y => ?_) (fun H' p => ?_)⟩
    · obtain ⟨sm, eG⟩ := p
      obtain ⟨rfl, gv⟩ := y
      obtain ⟨n, en, rfl⟩ := mapGet gv
      have s02 := s1.trans sm
      obtain ⟨q0, c0, lk0⟩ := look_of ((pm.mem_iff).mp (List.mem_of_getElem? en))
      have l1 := l.keep (.same s02)
      rcases valH n l1 with ⟨a1, a2⟩ | ⟨q', c', a, a1, a2, a3⟩
      · rw [lk0] at a1
        cases a1
      rw [lk0] at a1
      cases a1
      have shn : h.shares n = shrd q0 := by
        unfold Hd.shares
        rw [lk0]
      refine ⟨rfl, .ref x, rfl, x, C, dx, _, _, rfl, s02 _ _ e, X.cl, X.n4, lk4, .int n, rfl, D, .ref a, rfl, a2 ▸ DGr (k := .inl n) (rs s02 d), a, q0, rfl, a3, shrd q0, rfl, ?_⟩
      cases hq : shrd q0 with
      | false =>
        refine iteF ⟨sm, ?_⟩
        rw [eG, filter_take en, shn, hq]
        simp
      | true =>
        refine iteT ⟨.int n, rfl, _, eG, ?_, same_over sm nG, ?_⟩
        · rw [List.length_map]
          refine small1000 (Nat.le_trans (List.length_filter_le _ _) ?_)
          rw [List.length_take]
          exact Nat.le_trans (Nat.min_le_right _ _) (by omega)
        · rw [upd_same, filter_take en, shn, hq, List.map_append]
          rfl
    · obtain ⟨sm, eG⟩ := p
      rw [List.take_of_length_le (by rw [List.length_map]; exact Nat.le_refl _)] at eG
      exact q H' G _ (s1.trans sm) eG ⟨zs, pm, pw, rfl⟩
abbrev a_Hand_lacks : Stmt := inClass (topS 36) 9
abbrev n_Hand_lacks : List Str := ["self", "here", "goal", "there", "lacked", "number"]
theorem sc_Hand_lacks : FnScope n_Hand_lacks ["self"] (defScope a_Hand_lacks) := ⟨rfl, rfl, rfl, by decide +kernel, rfl, by decide +kernel, by decide +kernel⟩
set_option maxHeartbeats 8000000 in
theorem ok_Hand_lacks {f fOw fIo : Addr} {fd fdOw fdIo : FuncData} {k : Nat} {C : Addr} (F : Fun K "lacks" "Hand.lacks" a_Hand_lacks f fd) (Sd1 : C8.Met P w K mg base 2 C "shared" (spShL C) []) (Le : C8.Met P w K mg base 5 C "has_leave" (spLeave C) []) (Wp : C8.Met P w K mg base 1 C "wished_place" (spGoal C) []) (Ow : Kn P w K mg base 1 "own_side" ["rule", "thing"] spOwnS fOw fdOw) (Io : Kn P w K mg base 2 "is_out_at" ["side", "place"] spOutB fIo fdIo) (X : HandTxt K C) (m_tuple : mg "tuple" = none) : FnOk P w K mg base CX0 (k + 6) f fd ["self"] (spLkL C) := by
  refine F.ok sc_Hand_lacks (fun vs H Q E h => ?_) (fun cdv A outer s H vs Q E hr h => ?_)
  · obtain ⟨x, D, T, h, rfl, _⟩ := h
    rfl
  · obtain ⟨x, D, T, h, rfl, ha, l40, hw, q⟩ := h
    refine ⟨_, (pss_cons (ps_par (i := 1) (j := 2) (by rfl) sc_Hand_lacks.nd rfl rfl (by decide) rfl rfl (pa_cons (pe_fld (pv 0) rfl) (pa_cons (C8.pe_mt0 Wp hr (by omega) (pv 0)) pa_nil)) (by rfl))
      (pss_cons (ps_if (pt_cmpR op_eq (pv 2) (pv 1) (nomark _)) (pss_one (ps_ret (pe_tup pa_nil))) pss_nil)
      (pss_cons (ps_set (i := 3) sc_Hand_lacks.nd rfl (.inr rfl) (pe_ifExp (pt_cmpR op_gt (pv 2) (pv 1) (nomark _)) (pe_op op_add (pv 1) pe_int) (pe_op op_sub (pv 1) pe_int)))
      (pss_cons (ps_setLc (i := 4) (own := [("number", 5)]) (g := (gName 5)) (tt := (tNot (tB (tMeth C "has_leave" (spLeave C) [] E0 (tVar 0) (tCons (tVar 5) tNil))))) (te := (tVar 5)) rfl sc_Hand_lacks.nd rfl rfl (sw_true rfl rfl rfl (by decide +kernel)) (pi_list (C8.pe_mt0 Sd1 hr (by omega) (pv 0))) (blkOk_by (N := n_Hand_lacks) (sc := defScope a_Hand_lacks) (by decide +kernel))
          (fun _ _ _ _ _ => (pg_name (i := 5) sc_Hand_lacks.nd rfl (.inl rfl) (hf := .inr rfl))) (fun _ _ _ _ _ => pts_one (pt_not (pt_val (C8.pe_mt Le hr (by omega) (pv 0) (pa_cons (pv 5) pa_nil))))) (fun _ _ _ _ _ => (pv 5)))
      (pss_one (ps_ret (pe_callTy call_tuple_of (by rfl) m_tuple (by decide +kernel) (pa_cons (
        pe_lc (own := [("number", 5)]) (g := (gName 5)) (tt := (tB (tCall spOutB [] E0 (tCons (tCall spOwnS [] E0 (tCons (tDGet (tFld K (tVar 0) "held") (tVar 5)) (tCons (tFld K (tVar 0) "thing") tNil))) (tCons (tVar 3) tNil))))) (te := (tVar 5)) rfl sc_Hand_lacks.nd (pi_list (pv 4)) (blkOk_by (N := n_Hand_lacks) (sc := defScope a_Hand_lacks) (by decide +kernel))
          (fun _ _ _ _ _ => (pg_name (i := 5) sc_Hand_lacks.nd rfl (.inl rfl) (hf := .inr rfl))) (fun _ _ _ _ _ => pts_one (pt_val (pe_kn Io hr (by omega) (pa_cons (pe_kn Ow hr (by omega) (pa_cons (pe_dget (hu_of hr) (pe_fld (pv 0) rfl) (pv 5) (fun _ _ => rfl)) (pa_cons (pe_fld (pv 0) rfl) pa_nil))) (pa_cons (pv 3) pa_nil))))) (fun _ _ _ _ _ => (pv 5))) pa_nil)))))))), ?_⟩
    have ha0 := ha
    obtain ⟨dx, v, hs, e, w1, d, t, l⟩ := ha
    refine ⟨.ref x, rfl, x, C, dx, _, _, rfl, e, X.cl, X.n2, lk2, .ref x, rfl, x, dx, _, rfl, e, lkm, x, D, T, h, rfl, ha0, hw, _, _, rfl, ?_⟩
    dsimp only [List.set]
    refine ⟨_, rfl, _, rfl, rfl, decide (h.goal = h.place), congrArg V.bl (decide_eq_decide.mpr ⟨fun z => by injection z, fun z => by rw [z]⟩), ?_⟩
    by_cases hg : h.goal = h.place
    · rw [decide_eq_true hg]
      exact iteT ⟨(show 0 ≤ sizeLine by decide), fun g ng => q _ g [] (same_new ng) upd_same (.inl ⟨hg, rfl⟩)⟩
    rw [decide_eq_false hg]
    refine iteF ⟨_, rfl, _, rfl, _, _, rfl, rfl, _, rfl, tif_join (v := .int h.there) (fun c' Q qq => ?_) (fun c' Q qq => ?_) ?_⟩
    · have c2 := of_decide_eq_true c'
      refine ⟨_, rfl, _, 1, rfl, rfl, ?_⟩
      show Q (.int (h.place + 1)) H
      rw [show h.place + 1 = h.there by unfold Hd.there; rw [if_pos c2]]
      exact qq
    · have c2 := of_decide_eq_false (Bool.eq_false_iff.mpr c')
      refine ⟨_, rfl, _, 1, rfl, rfl, ?_⟩
      show Q (.int (h.place - 1)) H
      rw [show h.place - 1 = h.there by unfold Hd.there; rw [if_neg c2]]
      exact qq
    dsimp only [List.set]
    refine ⟨.ref x, rfl, x, dx, _, rfl, e, lkm, x, D, T, h, rfl, ha0, l40, fun H1 S ss s1 eS sL => ?_⟩
    have lS := sL.len
    refine ⟨S, rfl, ⟨_, .inl (.inl eS)⟩, fun G nG => lc_it (walk_list (xs := ss.map V.int)) (fun i H' => Same H1 H' ∧ H' G = some (.lst (((ss.take i).filter fun n => !h.lv n).map V.int))) ⟨same_new nG, upd_same⟩ (fun i H' _ p => .inl (.inl (p.1 _ _ eS))) (fun i u H2 H3 hi p y => ?_) (fun H2 p => ?_)⟩
    · obtain ⟨sm, eG⟩ := p
      obtain ⟨rfl, gv⟩ := y
      obtain ⟨n, en, rfl⟩ := mapGet gv
      have s02 := s1.trans sm
      obtain ⟨q0, c0, lk0, sh0⟩ := sL.mem (List.mem_of_getElem? en)
      have lvn : h.lv n = leaveB h.thing q0 c0 := by
        unfold Hd.lv
        rw [lk0]
      refine ⟨rfl, .ref x, rfl, x, dx, _, rfl, s02 _ _ e, lkm, .int n, rfl, x, D, T, h, n, q0, c0, rfl, ha0.same s02, lk0, sh0, fun H4 s4 => ⟨leaveB h.thing q0 c0, rfl, ?_⟩⟩
      have eG4 := s4 _ _ eG
      cases hq : leaveB h.thing q0 c0 with
      | true =>
        refine iteF ⟨sm.trans s4, ?_⟩
        rw [eG4, filter_take (f := fun n => !h.lv n) en, lvn, hq]
        simp
      | false =>
        refine iteT ⟨.int n, rfl, _, eG4, ?_, same_over (sm.trans s4) nG, ?_⟩
        · rw [List.length_map]
          refine small1000 (Nat.le_trans (List.length_filter_le _ _) ?_)
          rw [List.length_take]
          exact Nat.le_trans (Nat.min_le_right _ _) (by omega)
        · rw [upd_same, filter_take (f := fun n => !h.lv n) en, lvn, hq, List.map_append]
          rfl
    obtain ⟨sm, eG⟩ := p
    rw [List.take_of_length_le (by rw [List.length_map]; exact Nat.le_refl _)] at eG
    have s02 := s1.trans sm
    dsimp only [List.set]
    have lF : (ss.filter fun n => !h.lv n).length ≤ 40 := Nat.le_trans (List.length_filter_le _ _) (by omega)
    have mF : ∀ n ∈ ss.filter fun n => !h.lv n, ∃ q c, look h.rows n = some (q, c) ∧ shrd q = true := fun n hn => sL.mem (List.mem_filter.mp hn).1
    refine ⟨.ref G, rfl, G, rfl, ⟨_, .inl (.inl eG)⟩, fun W nW => lc_it (walk_list (xs := (ss.filter fun n => !h.lv n).map V.int)) (fun i H' => Same H2 H' ∧ H' W = some (.lst ((((ss.filter fun n => !h.lv n).take i).filter h.ou).map V.int))) ⟨same_new nW, upd_same⟩ (fun i H' _ p => .inl (.inl (p.1 _ _ eG))) (fun i u H3 H4 hi p y => ?_) (fun H3 p => ?_)⟩
    · obtain ⟨sm3, eW⟩ := p
      obtain ⟨rfl, gv⟩ := y
      obtain ⟨n, en, rfl⟩ := mapGet gv
      have s03 := s02.trans sm3
      obtain ⟨q0, c0, lk0, sh0⟩ := mF n (List.mem_of_getElem? en)
      have oun : h.ou n = outB (ownS q0 h.thing) h.there := by
        unfold Hd.ou
        rw [lk0]
      rcases valH n (l.keep (.same s03)) with ⟨a1, a2⟩ | ⟨q', c', a, a1, a2, a3⟩
      · rw [lk0] at a1
        cases a1
      rw [lk0] at a1
      cases a1
      refine ⟨rfl, .ref x, rfl, x, C, dx, _, _, rfl, s03 _ _ e, X.cl, X.n4, lk4, .int n, rfl, D, .ref a, rfl, a2 ▸ DGr (k := .inl n) (rs s03 d), .ref x, rfl, x, C, dx, _, _, rfl, s03 _ _ e, X.cl, X.n1, lk1, a, q0, h.thing, rfl, a3, fun p1 e1 => ⟨_, rfl, p1, _, h.there, rfl, e1, fun H5 s5 => ⟨outB (ownS q0 h.thing) h.there, rfl, ?_⟩⟩⟩
      have eW5 := s5 _ _ eW
      cases hq : outB (ownS q0 h.thing) h.there with
      | false =>
        refine iteF ⟨sm3.trans s5, ?_⟩
        rw [eW5, filter_take (f := h.ou) en, oun, hq]
        simp
      | true =>
        refine iteT ⟨.int n, rfl, _, eW5, ?_, same_over (sm3.trans s5) nW, ?_⟩
        · rw [List.length_map]
          refine small1000 (Nat.le_trans (List.length_filter_le _ _) ?_)
          rw [List.length_take]
          exact Nat.le_trans (Nat.min_le_right _ _) (by omega)
        · rw [upd_same, filter_take (f := h.ou) en, oun, hq, List.map_append]
          rfl
    · obtain ⟨sm3, eW⟩ := p
      rw [List.take_of_length_le (by rw [List.length_map]; exact Nat.le_refl _)] at eW
      exact ⟨W, _, rfl, .inl ⟨.inl (.inl eW), fun g ng => q _ g _ ((s02.trans sm3).trans (same_new ng)) upd_same (.inr ⟨hg, ss, sL, rfl⟩)⟩⟩
end
end K66

set_option Elab.async false
set_option linter.all false
set_option maxRecDepth 100000
namespace K66
open PySem PySem.Spec PyProof.Rows L2 NB

/-! ### what a hand answers and hears -/
def TupK (H H' : Hp) : Prop := ∀ b xs, H b = some (.tup xs) → H' b = some (.tup xs)
theorem SideAt.tk {H H' : Hp} {p : Addr} {s : Sd} (h : SideAt H p s) (k : TupK H H') : SideAt H' p s := k _ _ h
theorem RuleAt.tk {H H' : Hp} {p : Addr} {q : Rl} (h : RuleAt H p q) (k : TupK H H') : RuleAt H' p q := by
  obtain ⟨p1, p2, e, h1, h2⟩ := h
  exact ⟨p1, p2, k _ _ e, h1.tk k, h2.tk k⟩
theorem WV.tk {H H' : Hp} {v : V} : ∀ {o : Option Wi}, WV H v o → TupK H H' → WV H' v o
  | none, h, _ => h
  | some w, ⟨p, q, e, e1, e2⟩, k => ⟨p, q, e, k _ _ e1, k _ _ e2⟩
theorem LetAt.tk {H H' : Hp} {p : Addr} {l : Lt} (h : LetAt H p l) (k : TupK H H') : LetAt H' p l := by
  obtain ⟨v, e, w⟩ := h
  exact ⟨v, k _ _ e, w.tk k⟩
theorem Held.tk {H H' : Hp} (k : TupK H H') : ∀ {hs : List (Int × Addr)} {rows : List (Int × Rl × Int)}, Held H hs rows → Held H' hs rows
  | [], [], _ => trivial
  | _ :: _, _ :: _, ⟨a, b, c⟩ => ⟨a, b.tk k, c.tk k⟩
  | [], _ :: _, h => h.elim
  | _ :: _, [], h => h.elim
/-- all but a hand and its tally stands -/
def ButH (x T : Addr) (H H' : Hp) : Prop := ∀ b o, b ≠ x → b ≠ T → H b = some o → H' b = some o
theorem ButH.of {x T : Addr} {H H' : Hp} (s : Same H H') : ButH x T H H' := fun b o _ _ e => s b o e
theorem ButH.trans {x T : Addr} {H H1 H2 : Hp} (a : ButH x T H H1) (b : ButH x T H1 H2) : ButH x T H H2 := fun c o n m e => b c o n m (a c o n m e)
theorem ButH.tk {C : Addr} {x D T : Addr} {h : Hd} {H H' : Hp} (b : ButH x T H H') (a : HandAt C H x D T h) : TupK H H' := fun c xs e => by
  obtain ⟨dx, v, hs, e1, _, _, t, _⟩ := a
  refine b c _ (fun z => ?_) (fun z => ?_) e
  · rw [z, show H x = _ from e1] at e
    cases e
  · rw [z, t] at e
    cases e
/-- letters to things, in a tuple -/
abbrev Bt := Int × Lt
def PrAt (H : Hp) (a : Addr) (b : Bt) : Prop := ∃ l, H a = some (.tup [.int b.1, .ref l]) ∧ LetAt H l b.2
def BtAt (H : Hp) : List Addr → List Bt → Prop
  | [], [] => True
  | a :: as, b :: bs => PrAt H a b ∧ BtAt H as bs
  | _, _ => False
def BAt (H : Hp) (g : Addr) (bs : List Bt) : Prop := ∃ as : List Addr, H g = some (.tup (as.map V.ref)) ∧ BtAt H as bs
theorem PrAt.tk {H H' : Hp} {a : Addr} {b : Bt} (h : PrAt H a b) (k : TupK H H') : PrAt H' a b := by
  obtain ⟨l, e, w⟩ := h
  exact ⟨l, k _ _ e, w.tk k⟩
theorem BtAt.tk {H H' : Hp} (k : TupK H H') : ∀ {as : List Addr} {bs : List Bt}, BtAt H as bs → BtAt H' as bs
  | [], [], _ => trivial
  | _ :: _, _ :: _, ⟨a, c⟩ => ⟨a.tk k, c.tk k⟩
  | [], _ :: _, h => h.elim
  | _ :: _, [], h => h.elim
theorem BAt.tk {H H' : Hp} {g : Addr} {bs : List Bt} (h : BAt H g bs) (k : TupK H H') : BAt H' g bs := by
  obtain ⟨as, e, w⟩ := h
  exact ⟨as, k _ _ e, w.tk k⟩
theorem tk_same {H H' : Hp} (s : Same H H') : TupK H H' := fun b xs e => s _ _ e
def putC (rows : List (Int × Rl × Int)) (n c : Int) : List (Int × Rl × Int) := rows.map fun r => if r.1 = n then (r.1, r.2.1, c) else r
theorem putC_keys (rows : List (Int × Rl × Int)) (n c : Int) : (putC rows n c).map (·.1) = rows.map (·.1) := by
  unfold putC
  rw [List.map_map]
  refine List.map_congr_left fun r _ => ?_
  show (if r.1 = n then (r.1, r.2.1, c) else r).1 = r.1
  split <;> rfl
theorem look_put (rows : List (Int × Rl × Int)) (n c m : Int) : look (putC rows n c) m = (look rows m).map fun z => if m = n then (z.1, c) else z := by
  induction rows with
  | nil => rfl
  | cons r rows ih =>
    have e : putC (r :: rows) n c = (if r.1 = n then (r.1, r.2.1, c) else r) :: putC rows n c := rfl
    rw [e, look_cons, look_cons, ih]
    have e1 : (if r.1 = n then (r.1, r.2.1, c) else r).1 = r.1 := by split <;> rfl
    rw [e1]
    by_cases h : r.1 = m
    · rw [if_pos h, if_pos h]
      by_cases k : r.1 = n
      · rw [if_pos k]
        simp [← h, k]
      · rw [if_neg k]
        have : ¬ m = n := fun z => k (h.trans z)
        simp [this]
    · rw [if_neg h, if_neg h]
theorem put_kvT {rows : List (Int × Rl × Int)} {n c : Int} {z : Rl × Int} (h : look rows n = some z) : putK (kvT rows) (Sum.inl n) (V.int c) = kvT (putC rows n c) := by
  have hany : ((kvT rows).any fun kv => decide (kv.1 = (Sum.inl n : Key))) = true := by
    have hv := valT rows n
    rw [h] at hv
    unfold valV at hv
    cases hf : (kvT rows).find? fun kv => decide (kv.1 = (Sum.inl n : Key)) with
    | none =>
      rw [hf] at hv
      cases hv
    | some kv =>
      have hk := List.find?_some hf
      exact List.any_eq_true.mpr ⟨kv, List.mem_of_find?_eq_some hf, hk⟩
  unfold putK
  rw [if_pos hany]
  unfold kvT putC
  rw [List.map_map, List.map_map]
  refine List.map_congr_left fun r _ => ?_
  show (if (Sum.inl r.1 : Key) = Sum.inl n then ((Sum.inl r.1 : Key), V.int c) else (Sum.inl r.1, V.int r.2.2)) = (Sum.inl (if r.1 = n then (r.1, r.2.1, c) else r).1, V.int (if r.1 = n then (r.1, r.2.1, c) else r).2.2)
  by_cases k : r.1 = n
  · rw [if_pos (by rw [k]), if_pos k]
  · rw [if_neg (fun z => k (Sum.inl.inj z)), if_neg k]
theorem Held.put {H : Hp} (n c : Int) : ∀ {hs : List (Int × Addr)} {rows : List (Int × Rl × Int)}, Held H hs rows → Held H hs (putC rows n c)
  | [], [], _ => trivial
  | z :: hs, r :: rows, ⟨a, b, l⟩ => by
    have e : putC (r :: rows) n c = (if r.1 = n then (r.1, r.2.1, c) else r) :: putC rows n c := rfl
    rw [e]
    refine ⟨?_, ?_, l.put n c⟩
    · split
      · exact a
      · exact a
    · split
      · exact b
      · exact b
  | [], _ :: _, h => h.elim
  | _ :: _, [], h => h.elim
def Hd.setc (h : Hd) (n c : Int) : Hd := { h with rows := putC h.rows n c }
def Hd.cnd (h : Hd) (z : Rl × Int) (k : Int) : Bool := decide (z.2 = k) && (leaveB h.thing z.1 z.2 && !outB (ownS z.1 h.thing) h.place)
def Hd.cup (h : Hd) (z : Rl × Int) (k : Int) : Int := if h.cnd z k = true then z.2 + 1 else z.2
def Hd.hup (h : Hd) (n : Int) (z : Rl × Int) (k : Int) : Hd := if h.cnd z k = true then h.setc n (z.2 + 1) else h
def Hd.ans (h : Hd) (n k : Int) : Hd × List Bt := match look h.rows n with
  | none => (h, [])
  | some z => (h.hup n z k, if h.cup z k = k then [] else [((othT z.1 h.thing : Nat), ("leave", [n, h.cup z k], h.wish))])
theorem look_hup {h : Hd} {n k : Int} {z : Rl × Int} (e : look h.rows n = some z) : look (h.hup n z k).rows n = some (z.1, h.cup z k) := by
  unfold Hd.hup Hd.cup
  by_cases c : h.cnd z k = true
  · rw [if_pos c, if_pos c]
    show look (putC h.rows n (z.2 + 1)) n = _
    rw [look_put, e]
    simp
  · rw [if_neg c, if_neg c]
    exact e
theorem ans_of {h : Hd} {n k : Int} {z : Rl × Int} (e : look h.rows n = some z) : h.ans n k = (h.hup n z k, if h.cup z k = k then ([] : List Bt) else [(((othT z.1 h.thing : Nat) : Int), (("leave" : Str), [n, h.cup z k], h.wish))]) := by
  unfold Hd.ans
  rw [e]
theorem hup_thing (h : Hd) (n : Int) (z : Rl × Int) (k : Int) : (h.hup n z k).thing = h.thing := by unfold Hd.hup; split <;> rfl
theorem hup_wish (h : Hd) (n : Int) (z : Rl × Int) (k : Int) : (h.hup n z k).wish = h.wish := by unfold Hd.hup; split <;> rfl
theorem HandAt.setc {C : Addr} {H : Hp} {x D T : Addr} {h : Hd} {n c : Int} {z : Rl × Int} (a : HandAt C H x D T h) (hd : D ≠ T) (e : look h.rows n = some z) :
    H T = some (.dK (kvT h.rows)) ∧ HandAt C (upd H T (.dK (putK (kvT h.rows) (Sum.inl n) (V.int c)))) x D T (h.setc n c) ∧ ButH x T H (upd H T (.dK (putK (kvT h.rows) (Sum.inl n) (V.int c)))) := by
  obtain ⟨dx, v, hs, e1, w1, d, t, l⟩ := a
  have tk : TupK H (upd H T (.dK (putK (kvT h.rows) (Sum.inl n) (V.int c)))) := fun b xs eb => (upd_ne (fun q => by rw [q, t] at eb; cases eb)).trans eb
  refine ⟨t, ⟨dx, v, hs, (upd_ne (fun q => by rw [← q, show H x = _ from e1] at t; cases t)).trans e1, w1.tk tk, ru hd d, ?_, (l.tk tk).put n c⟩, fun b o _ n2 eb => (upd_ne n2).trans eb⟩
  rw [upd_same, put_kvT e]
  rfl
def spAns (C : Addr) : Sp := fun vs H Q _ => ∃ (x D T : Addr) (h : Hd) (n k : Int) (z : Rl × Int), vs = [.ref x, .int n, .int k] ∧ HandAt C H x D T h ∧ D ≠ T ∧ look h.rows n = some z ∧ shrd z.1 = true ∧ h.rows.length ≤ 40 ∧ ∀ H' g, ButH x T H H' → HandAt C H' x D T (h.ans n k).1 → BAt H' g (h.ans n k).2 → Q (.ref g) H'
section
variable {P : Program} {w : World} {K : PySem.W.Frag} {mg : Str → Option Value} {base : Heap}
end
end K66

set_option Elab.async false
set_option linter.all false
set_option maxRecDepth 100000
namespace K66
open PySem PySem.Spec PyProof.Rows L2 NB

theorem cut_to {K : PySem.W.Frag} {H : Hp} {p : Addr} {vs : List V} {c : Nat} {Q : VK} (h : H p = some (.tup vs)) (hc : c ≤ vs.length) (q : ∀ g H', Same H H' → H' g = some (.tup (vs.take c)) → Q (.ref g) H') : rSlA K (.ref p) none (some (c : Int)) H Q := by
  have e1 : HT.sIx vs.length vs.length (some (c : Int)) = c := by
    rw [HT.sIx_nat]
    omega
  refine ⟨p, _, rfl, .inl (.inl h), fun w => ?_, fun w g ng => ?_⟩
  · rw [e1] at w
    refine q p H (Same.refl H) ?_
    rw [List.take_of_length_le (by omega)]
    exact h
  · refine q g _ (same_new ng) ?_
    rw [upd_same]
    unfold cutV
    rw [e1, HT.sIx_none, List.drop_zero]
    rfl
theorem ixN_last (n : Nat) : ixN (n + 1) (-1) = some n := by
  unfold ixN
  rw [if_neg (by omega), if_pos (by omega)]
  congr 1
  omega
theorem at_last {α : Type} (xs : List α) (x : α) : atI (xs ++ [x]) (-1) = some x := by
  unfold atI
  rw [List.length_append]
  show (ixN (xs.length + 1) (-1)).bind _ = _
  rw [ixN_last]
  show (xs ++ [x])[xs.length]? = some x
  rw [List.getElem?_append_right (Nat.le_refl _), Nat.sub_self]
  rfl

/-! ### a hand hears -/
def Hd.hw (h : Hd) (o : Option Wi) : Hd := if wishN o > wishN h.wish then { h with wish := o } else h
def mx (i j : Int) : Int := if j > i then j else i
def Hd.hear2 (h : Hd) (a : Str) (o : Option Wi) (n k : Int) (z : Rl × Int) : Hd × List Bt :=
  if (decide (a = "leave") || decide (wishN o < wishN h.wish)) = true then (h.setc n (mx z.2 k), []) else (h.setc n (mx z.2 k)).ans n k
def Hd.hear (h : Hd) (l : Lt) : Hd × List Bt := match l.2.1 with
  | [n, k] => match look h.rows n with
    | some z => if shrd z.1 = true then (h.hw l.2.2).hear2 l.1 l.2.2 n k z else (h.hw l.2.2, [])
    | none => (h.hw l.2.2, [])
  | _ => (h.hw l.2.2, [])
theorem hw_rows (h : Hd) (o : Option Wi) : (h.hw o).rows = h.rows := by unfold Hd.hw; split <;> rfl
theorem hw_thing (h : Hd) (o : Option Wi) : (h.hw o).thing = h.thing := by unfold Hd.hw; split <;> rfl
theorem put_wish (i p v d t u : V) : putF "wish" u [("thing", i), ("place", p), ("wish", v), ("held", d), ("tally", t)] = ([("thing", i), ("place", p), ("wish", u), ("held", d), ("tally", t)] : List (Str × V)) := by
  have n1 : ¬ (("thing" : Str) = "wish") := by decide +kernel
  have n2 : ¬ (("place" : Str) = "wish") := by decide +kernel
  simp [putF, n1, n2]
theorem HandAt.wish {C : Addr} {H : Hp} {x D T dx : Addr} {h : Hd} {v u : V} {hs : List (Int × Addr)} {o : Option Wi} (e : HandF C H x dx v D T h) (d : Rd H D (.dK (kvH hs))) (t : H T = some (.dK (kvT h.rows))) (l : Held H hs h.rows) (w : WV H u o) :
    HandAt C (upd H x (.ins C dx [("thing", .int (h.thing : Int)), ("place", .int h.place), ("wish", u), ("held", .ref D), ("tally", .ref T)])) x D T { h with wish := o } ∧ ButH x T H (upd H x (.ins C dx [("thing", .int (h.thing : Int)), ("place", .int h.place), ("wish", u), ("held", .ref D), ("tally", .ref T)])) := by
  have e' : H x = some (.ins C dx [("thing", .int (h.thing : Int)), ("place", .int h.place), ("wish", v), ("held", .ref D), ("tally", .ref T)]) := e
  have tk : TupK H (upd H x (.ins C dx [("thing", .int (h.thing : Int)), ("place", .int h.place), ("wish", u), ("held", .ref D), ("tally", .ref T)])) := fun b xs eb => (upd_ne (fun q => by rw [q, e'] at eb; cases eb)).trans eb
  exact ⟨⟨dx, u, hs, upd_same, w.tk tk, ru (rn d e') d, (upd_ne (fun q => by rw [q, e'] at t; cases t)).trans t, l.tk tk⟩, fun b o n1 _ eb => (upd_ne n1).trans eb⟩
theorem dstr {a b : Str} : decide (V.str a = V.str b) = decide (a = b) := decide_eq_decide.mpr ⟨fun h => by injection h, congrArg _⟩
theorem hear_none {h : Hd} {l : Lt} (e : l.2.1 = []) : h.hear l = (h.hw l.2.2, ([] : List Bt)) := by
  unfold Hd.hear
  rw [e]
theorem hear_two {h : Hd} {a : Str} {n k : Int} {o : Option Wi} : h.hear (a, [n, k], o) = (match look h.rows n with
    | some z => if shrd z.1 = true then (h.hw o).hear2 a o n k z else (h.hw o, [])
    | none => (h.hw o, [])) := rfl
def spHear (C : Addr) : Sp := fun vs H Q _ => ∃ (x D T g : Addr) (h : Hd) (l : Lt), vs = [.ref x, .ref g] ∧ HandAt C H x D T h ∧ D ≠ T ∧ LetAt H g l ∧ LetP l ∧ (∀ w, l.2.2 = some w → h.thing < w.2.length) ∧ h.rows.length ≤ 40 ∧ ∀ H' a, ButH x T H H' → HandAt C H' x D T (h.hear l).1 → BAt H' a (h.hear l).2 → Q (.ref a) H'
section
variable {P : Program} {w : World} {K : PySem.W.Frag} {mg : Str → Option Value} {base : Heap}
end
end K66

set_option Elab.async false
set_option linter.all false
set_option maxRecDepth 100000
set_option maxHeartbeats 4000000
/-! set of a list of ints. -/
namespace NB
open PySem PySem.Spec PyProof.Rows L2
section
variable {P : Program} {w : World} {A : Around} {E : Value → Shared → Prop} {s : Shared}
/-- a set with nothing in it -/
abbrev emI (w : World) : Obj := { cls := .type "set", dict := none, data := .set #[] 0 (.fresh 0 0 (!w.params.followText "set-order")) }
theorem setLstI {l : Addr} {xs : Array Value} (ns : List Int) {Q : Value → Shared → Prop} (nh : A.handled = none) (tl : s.heap.IsList l xs) (ia : IntsAre xs.toList ns) (few : ns.length + 1 < scanBound)
    (q : ∀ (h' : Heap) (tk c : Nat), SetR w h' s.heap.objs.size (fun j => decide (j ∈ ns)) c → c ≤ ns.length → (∀ b o, s.heap.get? b = some o → h'.get? b = some o) → Q (.ref s.heap.objs.size) { s with heap := h', toks := tk }) :
    wpAny (model P w) A (call (.type "set") [.ref l]) Q E s := by
  have n1 : xs.size = ns.length := by
    rw [← Array.length_toList, IntsAre.length ia]
  -- the call of the type
  obtain ⟨_, _, mro⟩ := F.called_set.mro
  have a1 := F.called_set.made
  have a2 := F.called_set.sub
  have a3 := F.called_set.notType
  have a4 := F.called_set.canCreate
  have a5 := F.typeCall_set_1 (.ref l)
  refine wpAny_call (codeAny_of_tree ?_)
  show wpAny _ _ (callAny (.type "set") _) _ _ _
  refine wpAny_pure ⟨Code.quiet_builtin _ (by decide +kernel), codeAny_builtin F.entry_type_call ?_⟩
  rw [Around.under_plain (weight_type_call_type "set" [.ref l] []) rfl]
  repeat (any_goals (first | assumption | wp_step))
  generalize hN : s.heap.objs.size = N at q ⊢
  refine codeAny_mono (code_set_led1 (.ref l) (E := E) (Q₁ := fun b u => b = .ref N ∧ u = { s with heap := s.heap.push (emI w) }) ⟨by rw [hN], rfl⟩) fun r u hr => ?_
  match r, hr with
  | .error _, hr => exact hr
  | .ok (.ret b), hr =>
    obtain ⟨rfl, rfl⟩ := hr
    have gN : (s.heap.push (emI w)).get? N = some (emI w) := hN ▸ Heap.get?_push_size _ rfl
    have tN : Shared.TypeIs { s with heap := s.heap.push (emI w) } (.ref N) "set" := ⟨_, gN, rfl⟩
    have b1 := F.called_set.init.lookup
    have b2 := F.called_set.init.bind (.ref N)
    repeat (any_goals (first | assumption | wp_step))
    refine codeAny_mono (codeAny_call_builtin (R := wants (fun r u => r = .none ∧ ∃ h' tk c, u = { s with heap := h', toks := tk } ∧ SetR w h' N (fun j => decide (j ∈ ns)) c ∧ c ≤ ns.length ∧ ∀ b o, s.heap.get? b = some o → h'.get? b = some o) E) F.called_set.init.plain F.entry_set_init (check_set_init_1 tN ?_)) fun r2 u2 hr2 => ?_
    · obtain ⟨⟨oc, od, ob, os⟩, ho, hc, nn, hd⟩ := tl
      simp only at hc hd
      subst hc
      subst hd
      have lN : l < N := hN ▸ Heap.lt_size ho
      have g1 : (s.heap.push (emI w)).get? l = some { cls := .type "list", dict := od, data := .seq xs nn, slots := os } := Heap.get?_push_of_some _ ho
      have t1 : (s.heap.push (emI w)).IsList l xs := ⟨_, g1, rfl, nn, rfl⟩
      have sz : (s.heap.push (emI w)).objs.size = N + 1 := by rw [Heap.size_push, hN]
      have c1 := F.sub_list_set
      have c2 := F.sub_list_frozenset
      have c3 : (Value.type "list" == Value.type "dict") = false := by decide
      unfold Builtin.«set.__init__» noKeywords Builtin.Frozenset.updateFrom
      generalize eP : pyIter = PI
      wp_walk
      subst eP
      refine wpAny_pyIter_list t1 ?_
      refine wpAny_bind (wpAny_runValue ?_)
      have ln : l ≠ (s.heap.push (emI w)).objs.size := by
        rw [sz]
        exact Nat.ne_of_lt (Nat.lt_succ_of_lt lN)
      have nf : N ∉ [(s.heap.push (emI w)).objs.size, l] := by
        rw [sz]
        simp only [List.mem_cons, List.not_mem_nil, or_false, not_or]
        exact ⟨Nat.ne_of_lt (Nat.lt_succ_self _), Nat.ne_of_gt lN⟩
      refine set_update_ints ((Walks.list (by simp [nh]) _ l ln xs).toS) N nf ns n1 few (fun i v hv => ?_) (xs.size - 0) 0 _ (by omega) (Nat.zero_le _) ⟨⟨_, Heap.get?_push_size _ rfl, rfl, rfl⟩, t1.push _⟩ ?i0 ?i1
      · have hi : i < ns.length := by
          rw [← n1]
          exact (Array.getElem?_eq_some_iff.mp hv).1
        obtain ⟨t, e⟩ := PyProof.Rows.IntsAre.int_at ia i v (by rw [Array.getElem?_toList]; exact hv)
        refine ⟨ns[i], t, List.getElem?_eq_getElem hi, ?_⟩
        rw [e, List.getD_eq_getElem?_getD, List.getElem?_eq_getElem hi]
        rfl
      case i0 => exact ⟨0, Nat.le_refl 0, setR_new_at (Heap.get?_push_of_some _ gN)⟩
      case i1 =>
        intro u c mv hc R
        obtain ⟨h', gg, dd, tk, oo⟩ := u
        obtain rfl : gg = s.gens := mv.gens
        obtain rfl : dd = s.drawn := mv.drawn
        obtain rfl : oo = s.os := mv.os
        rw [n1] at hc
        show wpAny _ _ _ _ _ _
        refine wpAny_pure ?_
        show wpAny _ _ (ret Value.none) _ _ _
        refine wpAny_pure ⟨rfl, h', tk, c, rfl, R, hc, fun b o e => mv.heap b o ?_ (Heap.get?_push_of_some _ (Heap.get?_push_of_some _ e))⟩
        have b0 := Heap.lt_size e
        rw [hN] at b0
        rw [sz]
        simp only [List.mem_cons, List.not_mem_nil, or_false, not_or]
        exact ⟨Nat.ne_of_lt b0, Nat.ne_of_lt (Nat.lt_succ_of_lt b0)⟩
    · match r2, hr2 with
      | .error _, hr2 => exact hr2
      | .ok (.ret _), hr2 =>
        obtain ⟨rfl, h', tk, c, rfl, R, hc, kp⟩ := hr2
        repeat (any_goals (first | assumption | wp_step))
        exact q _ _ _ R hc kp
end
section
variable {X : Cx}
/-- set(xs), xs a list of ints -/
def rSetLstI (K : PySem.W.Frag) (w : World) : List V → Hp → VK → Prop := fun xs H Q => ∃ (l : Addr) (ns : List Int), xs = [V.ref l] ∧ SqL K H l (ns.map V.int) ∧ ns.length < 64 ∧
  ∀ a c, H a = none → c ≤ ns.length → Q (.ref a) (upd H a (SetO w a (fun j => decide (j ∈ ns)) c))
theorem ints_of_vals : ∀ {ns : List Int} {us : List Value}, Vals (ns.map V.int) us → IntsAre us ns
  | [], _, .nil => .nil
  | n :: ns, _, .cons r t => by
    obtain ⟨tk, rfl⟩ := r
    exact .cons n tk (ints_of_vals t)
theorem cr_setLstI (hc : X.calm = true) : CallR X (.type "set") (rSetLstI X.K X.w) := by
  intro pins s σ H xs us Q I r ⟨l, ns, e, hl, few, q⟩
  subst e
  rw [Vals.ref1 r]
  obtain ⟨its, rv, pl, _⟩ := I.list hl
  have hn : H s.heap.objs.size = none := I.hok.fresh (Nat.le_refl _)
  refine setLstI (P := X.prog) (w := X.w) (xs := its.toArray) ns (I.ok.hd hc) pl.isList (ints_of_vals (by simpa using rv)) (by unfold scanBound; omega) fun h' tk c R hcn kp => ?_
  exact ⟨.ref s.heap.objs.size, _, I.laid (t' := tk) kp (Nat.le_refl _) (setO_new R), rfl, q _ c hn hcn⟩
end
end NB

set_option Elab.async false
set_option linter.all false
set_option maxRecDepth 100000
namespace K66
open PySem PySem.Spec PyProof.Rows L2 NB

/-! ### what a hand writes by itself -/
theorem BtAt.app {H : Hp} {a : Addr} {b : Bt} (p : PrAt H a b) : ∀ {as : List Addr} {bs : List Bt}, BtAt H as bs → BtAt H (as ++ [a]) (bs ++ [b])
  | [], [], _ => ⟨p, trivial⟩
  | _ :: _, _ :: _, ⟨x, c⟩ => ⟨x, c.app p⟩
  | [], _ :: _, h => h.elim
  | _ :: _, [], h => h.elim
theorem BtAt.cat {H : Hp} {as' : List Addr} {bs' : List Bt} (p : BtAt H as' bs') : ∀ {as : List Addr} {bs : List Bt}, BtAt H as bs → BtAt H (as ++ as') (bs ++ bs')
  | [], [], _ => p
  | _ :: _, _ :: _, ⟨x, c⟩ => ⟨x, BtAt.cat p c⟩
  | [], _ :: _, h => h.elim
  | _ :: _, [], h => h.elim
theorem BtAt.len {H : Hp} : ∀ {as : List Addr} {bs : List Bt}, BtAt H as bs → as.length = bs.length
  | [], [], _ => rfl
  | _ :: _, _ :: _, ⟨_, c⟩ => by rw [List.length_cons, List.length_cons, c.len]
  | [], _ :: _, h => h.elim
  | _ :: _, [], h => h.elim
def Hd.othN (h : Hd) (n : Int) : Int := match look h.rows n with
  | some z => (othT z.1 h.thing : Nat)
  | none => 0
def Hd.cntN (h : Hd) (n : Int) : Int := match look h.rows n with
  | some z => z.2
  | none => 0
def Hd.asks (h : Hd) (ys : List Int) : List Bt := ys.map fun n => (h.othN n, (("ask" : Str), [n, h.cntN n], h.wish))
def Hd.words (h : Hd) (ts : List Int) : List Bt := ts.map fun k => (k, (("word" : Str), [], h.wish))
def BtL (h : Hd) (bs : List Bt) : Prop := ∃ ys, LkL h ys ∧ ((h.wish = none ∧ bs = h.asks ys) ∨ (h.wish ≠ none ∧ ∃ ss ts, ShL h ss ∧ ts.Pairwise (· < ·) ∧ (∀ k, k ∈ ts ↔ k ∈ ss.map h.othN) ∧ bs = h.asks ys ++ h.words ts))
def spBeat (C : Addr) : Sp := fun vs H Q _ => ∃ (x D T : Addr) (h : Hd), vs = [.ref x] ∧ HandAt C H x D T h ∧ h.rows.length ≤ 40 ∧ (∀ w, h.wish = some w → h.thing < w.2.length) ∧ ∀ H' g bs, Same H H' → BAt H' g bs → BtL h bs → Q (.ref g) H'
section
variable {P : Program} {w : World} {K : PySem.W.Frag} {mg : Str → Option Value} {base : Heap}
end
end K66

set_option Elab.async false
set_option linter.all false
set_option maxRecDepth 100000
namespace K66
open PySem PySem.Spec PyProof.Rows L2 NB

/-! ### wiped slots -/
theorem wipe_get (σ : L2.St) : ∀ (vs : List Nat) (j : Nat), (wipe σ vs)[j]? = if j ∈ vs then σ[j]?.map (fun _ => none) else σ[j]?
  | [], j => by rw [if_neg List.not_mem_nil]; rfl
  | v :: vs, j => by
    show ((wipe σ vs).set v none)[j]? = _
    rw [List.getElem?_set, wipe_get σ vs j, wipe_length]
    by_cases c : v = j
    · subst c
      rw [if_pos rfl, if_pos List.mem_cons_self]
      by_cases d : v < σ.length
      · rw [if_pos d, List.getElem?_eq_getElem d]
        rfl
      · rw [if_neg d, List.getElem?_eq_none (by omega)]
        rfl
    · rw [if_neg c]
      have : j ∈ v :: vs ↔ j ∈ vs := by rw [List.mem_cons]; exact ⟨fun h => h.elim (fun e => absurd e.symm c) id, .inr⟩
      by_cases d : j ∈ vs
      · rw [if_pos d, if_pos (this.mpr d)]
      · rw [if_neg d, if_neg (fun h => d (this.mp h))]
theorem wipe_any {σ τ : L2.St} {vs : List Nat} (l : τ.length = σ.length) (h : ∀ j, j ∉ vs → τ[j]? = σ[j]?) : wipe τ vs = wipe σ vs := by
  refine List.ext_getElem? fun j => ?_
  rw [wipe_get, wipe_get]
  by_cases d : j ∈ vs
  · rw [if_pos d, if_pos d]
    by_cases e : j < σ.length
    · rw [List.getElem?_eq_getElem e, List.getElem?_eq_getElem (by omega)]
      rfl
    · rw [List.getElem?_eq_none (by omega), List.getElem?_eq_none (by omega)]
  · rw [if_neg d, if_neg d, h j d]

/-! ### a hand is made -/
def RwAt (H : Hp) (R : Addr) (rows : List (Int × Rl × Int)) (hs : List (Int × Addr)) : Prop := ∃ as : List Addr, H R = some (.tup (as.map V.ref)) ∧ as.length = rows.length ∧ hs.length = rows.length ∧
  ∀ (i : Nat) (a : Addr) (r : Int × Rl × Int) (z : Int × Addr), as[i]? = some a → rows[i]? = some r → hs[i]? = some z → z.1 = r.1 ∧ H a = some (.tup [.int r.1, .ref z.2, .int r.2.2]) ∧ RuleAt H z.2 r.2.1
theorem RwAt.tk {H H' : Hp} {R : Addr} {rows : List (Int × Rl × Int)} {hs : List (Int × Addr)} (h : RwAt H R rows hs) (k : TupK H H') : RwAt H' R rows hs := by
  obtain ⟨as, e, l1, l2, f⟩ := h
  exact ⟨as, k _ _ e, l1, l2, fun i a r z h1 h2 h3 => ⟨(f i a r z h1 h2 h3).1, k _ _ (f i a r z h1 h2 h3).2.1, (f i a r z h1 h2 h3).2.2.tk k⟩⟩
theorem held_of {H : Hp} : ∀ {hs : List (Int × Addr)} {rows : List (Int × Rl × Int)}, hs.length = rows.length → (∀ (i : Nat) (r : Int × Rl × Int) (z : Int × Addr), rows[i]? = some r → hs[i]? = some z → z.1 = r.1 ∧ RuleAt H z.2 r.2.1) → Held H hs rows
  | [], [], _, _ => trivial
  | z :: hs, r :: rows, l, f => ⟨(f 0 r z rfl rfl).1, (f 0 r z rfl rfl).2, held_of (by simpa using l) fun i r' z' h1 h2 => f (i + 1) r' z' h1 h2⟩
  | [], _ :: _, l, _ => by cases l
  | _ :: _, [], l, _ => by cases l
theorem putK_new {kvs : List (Key × V)} {k : Key} {v : V} (h : ∀ kv ∈ kvs, kv.1 ≠ k) : putK kvs k v = kvs ++ [(k, v)] := by
  unfold putK
  rw [if_neg]
  intro z
  obtain ⟨kv, h1, h2⟩ := List.any_eq_true.mp z
  exact h kv h1 (of_decide_eq_true h2)
theorem nd_take {ks : List Int} (nd : ks.Nodup) {i : Nat} {n : Int} (e : ks[i]? = some n) : n ∉ ks.take i := fun h => by
  obtain ⟨j, hj⟩ := List.mem_iff_getElem?.mp h
  have lj : j < i := by
    have := (List.getElem?_eq_some_iff.mp hj).1
    rw [List.length_take] at this
    omega
  rw [List.getElem?_take_of_lt lj] at hj
  have := (List.getElem?_inj (List.getElem?_eq_some_iff.mp hj).1 nd).mp (hj.trans e.symm)
  omega
theorem wipe_three {σ : L2.St} {i j k : Nat} {a b c : Option V} {m n o : Str} : wipe ((((wipe σ ([(m, i), (n, j), (o, k)].map (·.2))).set i a).set j b).set k c) ([(m, i), (n, j), (o, k)].map (·.2)) = wipe σ ([(m, i), (n, j), (o, k)].map (·.2)) := by
  refine wipe_any (by rw [List.length_set, List.length_set, List.length_set, wipe_length]) fun l hl => ?_
  have h1 : i ≠ l := fun e => hl (by simp [e])
  have h2 : j ≠ l := fun e => hl (by simp [e])
  have h3 : k ≠ l := fun e => hl (by simp [e])
  rw [List.getElem?_set_ne h3, List.getElem?_set_ne h2, List.getElem?_set_ne h1, wipe_get, if_neg hl]
def spHInit (C : Addr) : Sp := fun vs H Q _ => ∃ (x dx R : Addr) (i : Nat) (p : Int) (rows : List (Int × Rl × Int)) (hs : List (Int × Addr)), vs = [.ref x, .int (i : Int), .int p, .ref R] ∧ H x = some (.ins C dx []) ∧ RwAt H R rows hs ∧ (rows.map (·.1)).Nodup ∧ rows.length ≤ 40 ∧
  ∀ H' D T, (∀ b o, b ≠ x → H b = some o → H' b = some o) → HandAt C H' x D T ⟨i, p, none, rows⟩ → D ≠ T → H D = none → H T = none → (∃ kvs, H' D = some (.dK kvs)) → Q .non H'
theorem put3 (i p v : V) : putF "wish" v (putF "place" p (putF "thing" i [])) = ([("thing", i), ("place", p), ("wish", v)] : List (Str × V)) := by
  have n1 : ¬ (("thing" : Str) = "place") := by decide +kernel
  have n2 : ¬ (("thing" : Str) = "wish") := by decide +kernel
  have n3 : ¬ (("place" : Str) = "wish") := by decide +kernel
  simp [putF, n1, n2, n3]
theorem put4 (i p v d : V) : putF "held" d [("thing", i), ("place", p), ("wish", v)] = ([("thing", i), ("place", p), ("wish", v), ("held", d)] : List (Str × V)) := by
  have n1 : ¬ (("thing" : Str) = "held") := by decide +kernel
  have n2 : ¬ (("place" : Str) = "held") := by decide +kernel
  have n3 : ¬ (("wish" : Str) = "held") := by decide +kernel
  simp [putF, n1, n2, n3]
theorem put5 (i p v d t : V) : putF "tally" t [("thing", i), ("place", p), ("wish", v), ("held", d)] = ([("thing", i), ("place", p), ("wish", v), ("held", d), ("tally", t)] : List (Str × V)) := by
  have n1 : ¬ (("thing" : Str) = "tally") := by decide +kernel
  have n2 : ¬ (("place" : Str) = "tally") := by decide +kernel
  have n3 : ¬ (("wish" : Str) = "tally") := by decide +kernel
  have n4 : ¬ (("held" : Str) = "tally") := by decide +kernel
  simp [putF, n1, n2, n3, n4]
section
variable {P : Program} {w : World} {K : PySem.W.Frag} {mg : Str → Option Value} {base : Heap}
abbrev a_Hand___init__ : Stmt := inClass (topS 36) 0
abbrev n_Hand___init__ : List Str := ["self", "thing", "place", "rules", "number", "rule", "count"]
theorem sc_Hand___init__ : FnScope n_Hand___init__ ["self", "thing", "place", "rules"] (defScope a_Hand___init__) := ⟨rfl, rfl, rfl, by decide +kernel, rfl, by decide +kernel, by decide +kernel⟩
set_option maxHeartbeats 8000000 in
theorem ok_Hand___init__ {f  : Addr} {fd  : FuncData} {k : Nat} {C : Addr} (F : Fun K "__init__" "Hand.__init__" a_Hand___init__ f fd)  (X : HandTxt K C)  : FnOk P w K mg base CX0 (k + 1) f fd ["self", "thing", "place", "rules"] (spHInit C) := by
  refine F.ok sc_Hand___init__ (fun vs H Q E h => ?_) (fun cdv A outer s H vs Q E hr h => ?_)
  · obtain ⟨x, dx, R, i, p, rows, hs, rfl, _⟩ := h
    rfl
  · obtain ⟨x, dx, R, i, p, rows, hs, rfl, ex, hR, nd, l40, q⟩ := h
    refine ⟨_, (pss_cons (ps_fld (pv 0) (pv 1) rfl)
      (pss_cons (ps_fld (pv 0) (pv 2) rfl)
      (pss_cons (ps_fld (pv 0) pe_non rfl)
      (pss_cons (ps_fld (pv 0) (
        pe_dc (own := [("number", 4), ("rule", 5), ("count", 6)]) (g := (gTup K 3 (gCons (gName 4) (gCons (gName 5) (gCons (gName 6) gNil))))) (tt := tYes) (tk := (tVar 4)) (tv := (tVar 5)) rfl sc_Hand___init__.nd (pi_tup (pv 3)) (blkOk_by (N := n_Hand___init__) (sc := defScope a_Hand___init__) (by decide +kernel))
          (fun _ _ _ _ _ => (pg_tup rfl (pgs_cons (pg_name (i := 4) sc_Hand___init__.nd rfl (.inl rfl) (hf := .inr rfl)) (pgs_cons (pg_name (i := 5) sc_Hand___init__.nd rfl (.inl rfl) (hf := .inr rfl)) (pgs_cons (pg_name (i := 6) sc_Hand___init__.nd rfl (.inl rfl) (hf := .inr rfl)) pgs_nil))))) (fun _ _ _ _ _ => pts_nil) (fun _ _ _ _ _ => (pv 4)) (fun _ _ _ _ _ => (pv 5))) rfl)
      (pss_one (ps_fld (pv 0) (
        pe_dc (own := [("number", 4), ("rule", 5), ("count", 6)]) (g := (gTup K 3 (gCons (gName 4) (gCons (gName 5) (gCons (gName 6) gNil))))) (tt := tYes) (tk := (tVar 4)) (tv := (tVar 6)) rfl sc_Hand___init__.nd (pi_tup (pv 3)) (blkOk_by (N := n_Hand___init__) (sc := defScope a_Hand___init__) (by decide +kernel))
          (fun _ _ _ _ _ => (pg_tup rfl (pgs_cons (pg_name (i := 4) sc_Hand___init__.nd rfl (.inl rfl) (hf := .inr rfl)) (pgs_cons (pg_name (i := 5) sc_Hand___init__.nd rfl (.inl rfl) (hf := .inr rfl)) (pgs_cons (pg_name (i := 6) sc_Hand___init__.nd rfl (.inl rfl) (hf := .inr rfl)) pgs_nil))))) (fun _ _ _ _ _ => pts_nil) (fun _ _ _ _ _ => (pv 4)) (fun _ _ _ _ _ => (pv 6))) rfl)))))), ?_⟩
    obtain ⟨as, eR, l1, l2, f⟩ := hR
    refine ⟨.int (i : Int), rfl, .ref x, rfl, x, C, dx, [], rfl, ex, X.cl, X.n1, (show 0 < 1000 by decide), ?_⟩
    refine ⟨.int p, rfl, .ref x, rfl, x, C, dx, _, rfl, upd_same, X.cl, X.n2, (show 1 < 1000 by decide), ?_⟩
    refine ⟨.ref x, rfl, x, C, dx, _, rfl, upd_same, X.cl, X.n3, (show 2 < 1000 by decide), ?_⟩
    rw [put3]
    have e3 : (upd (upd (upd H x (.ins C dx (putF "thing" (.int (i : Int)) []))) x (.ins C dx (putF "place" (.int p) (putF "thing" (.int (i : Int)) [])))) x (.ins C dx [("thing", .int (i : Int)), ("place", .int p), ("wish", .non)])) x = some (.ins C dx [("thing", .int (i : Int)), ("place", .int p), ("wish", .non)]) := upd_same
    have b3 : ∀ b o, b ≠ x → H b = some o → (upd (upd (upd H x (.ins C dx (putF "thing" (.int (i : Int)) []))) x (.ins C dx (putF "place" (.int p) (putF "thing" (.int (i : Int)) [])))) x (.ins C dx [("thing", .int (i : Int)), ("place", .int p), ("wish", .non)])) b = some o := fun b o n eb => by
      rw [upd_ne n, upd_ne n, upd_ne n]
      exact eb
    have f3 : ∀ b, b ≠ x → (upd (upd (upd H x (.ins C dx (putF "thing" (.int (i : Int)) []))) x (.ins C dx (putF "place" (.int p) (putF "thing" (.int (i : Int)) [])))) x (.ins C dx [("thing", .int (i : Int)), ("place", .int p), ("wish", .non)])) b = H b := fun b n => by
      rw [upd_ne n, upd_ne n, upd_ne n]
    generalize upd (upd (upd H x (.ins C dx (putF "thing" (.int (i : Int)) []))) x (.ins C dx (putF "place" (.int p) (putF "thing" (.int (i : Int)) [])))) x (.ins C dx [("thing", .int (i : Int)), ("place", .int p), ("wish", .non)]) = H3 at e3 b3 f3 ⊢
    have nx : ∀ b xs, H b = some (.tup xs) → b ≠ x := fun b xs eb z => by
      rw [z, ex] at eb
      cases eb
    have tk3 : TupK H H3 := fun b xs eb => b3 b _ (nx b xs eb) eb
    have rw3 : ∀ (j : Nat) (a : Addr) (r : Int × Rl × Int) (z : Int × Addr), as[j]? = some a → rows[j]? = some r → hs[j]? = some z → z.1 = r.1 ∧ H3 a = some (.tup [.int r.1, .ref z.2, .int r.2.2]) ∧ RuleAt H3 z.2 r.2.1 := fun j a r z h1 h2 h3 => ⟨(f j a r z h1 h2 h3).1, tk3 _ _ (f j a r z h1 h2 h3).2.1, (f j a r z h1 h2 h3).2.2.tk tk3⟩
    have eR3 := tk3 _ _ eR
    have kh : hs.map (·.1) = rows.map (·.1) := (held_of (H := H3) l2 fun j r z h1 h2 => by
      have hj : j < as.length := by
        have := (List.getElem?_eq_some_iff.mp h1).1
        omega
      exact ⟨(rw3 j _ r z (List.getElem?_eq_getElem hj) h1 h2).1, (rw3 j _ r z (List.getElem?_eq_getElem hj) h1 h2).2.2⟩).keys
    have pick : ∀ (H4 : Hp) (j : Nat) (u : V), Same H3 H4 → (as.map V.ref)[j]? = some u → ∃ a r z, u = .ref a ∧ rows[j]? = some r ∧ hs[j]? = some z ∧ z.1 = r.1 ∧ H4 a = some (.tup [.int r.1, .ref z.2, .int r.2.2]) ∧ j < 40 := fun H4 j u s hu => by
      obtain ⟨a, ea, rfl⟩ := mapGet hu
      have hj := (List.getElem?_eq_some_iff.mp ea).1
      have e1 := List.getElem?_eq_getElem (show j < rows.length by omega)
      have e2 := List.getElem?_eq_getElem (show j < hs.length by omega)
      have := rw3 j a _ _ ea e1 e2
      exact ⟨a, _, _, rfl, e1, e2, this.1, s _ _ this.2.1, by omega⟩
    refine ⟨.ref R, rfl, R, rfl, ⟨_, .inl (.inl eR3)⟩, fun D nD => dc_tup (xs := as.map V.ref) (fun j H' => Same H3 H' ∧ H' D = some (.dK (kvH (hs.take j)))) ⟨same_new nD, upd_same⟩ (fun j H' _ z => .inl (.inl (z.1 _ _ eR3))) (fun j u H4 hu z => ?_) (fun H4 z => ?_)⟩
    · obtain ⟨s4, eD⟩ := z
      obtain ⟨a, r, zz, rfl, er, ez, e1, ea, lj⟩ := pick H4 j u s4 hu
      refine ⟨a, _, rfl, .inl (.inl ea), rfl, _, _, rfl, _, _, rfl, _, _, rfl, rfl, wipe_three, _, rfl, _, rfl, kvH (hs.take j), .inl r.1, rfl, eD, ?_, same_over s4 nD, ?_⟩
      · unfold kvH
        rw [List.length_map, List.length_take]
        exact small1000 (Nat.le_trans (Nat.min_le_left _ _) (by omega))
      · rw [upd_same, putK_new (fun kv hkv => ?_)]
        · unfold kvH
          rw [List.take_add_one, ez, List.map_append, ← e1]
          rfl
        · obtain ⟨w1, hw1, rfl⟩ := List.mem_map.mp hkv
          intro q0
          have q1 : w1.1 = r.1 := Sum.inl.inj q0
          refine nd_take (kh ▸ nd) (n := r.1) (i := j) (by rw [List.getElem?_map, ez, ← e1]; rfl) ?_
          rw [← q1, ← List.map_take]
          exact List.mem_map_of_mem hw1
    obtain ⟨s4, eD⟩ := z
    rw [List.take_of_length_le (by rw [List.length_map]; omega)] at eD
    have nDx : D ≠ x := fun z => by rw [z, e3] at nD; cases nD
    refine ⟨.ref x, rfl, x, C, dx, _, rfl, s4 _ _ e3, X.cl, X.n4, (show 3 < 1000 by decide), ?_⟩
    rw [put4]
    have e5 : (upd H4 x (.ins C dx [("thing", .int (i : Int)), ("place", .int p), ("wish", .non), ("held", .ref D)])) x = some (.ins C dx [("thing", .int (i : Int)), ("place", .int p), ("wish", .non), ("held", .ref D)]) := upd_same
    have eD5 : (upd H4 x (.ins C dx [("thing", .int (i : Int)), ("place", .int p), ("wish", .non), ("held", .ref D)])) D = some (.dK (kvH hs)) := (upd_ne nDx).trans eD
    have b5 : ∀ b o, b ≠ x → H4 b = some o → (upd H4 x (.ins C dx [("thing", .int (i : Int)), ("place", .int p), ("wish", .non), ("held", .ref D)])) b = some o := fun b o n eb => (upd_ne n).trans eb
    have n5 : ∀ b, b ≠ x → (upd H4 x (.ins C dx [("thing", .int (i : Int)), ("place", .int p), ("wish", .non), ("held", .ref D)])) b = none → H4 b = none := fun b n eb => by rwa [upd_ne n] at eb
    generalize upd H4 x (.ins C dx [("thing", .int (i : Int)), ("place", .int p), ("wish", .non), ("held", .ref D)]) = H5 at e5 eD5 b5 n5 ⊢
    have eR5 : H5 R = some (.tup (as.map V.ref)) := b5 _ _ (nx _ _ eR) (s4 _ _ eR3)
    have ne4 : ∀ b xs, H4 b = some (.tup xs) → b ≠ x := fun b xs eb z => by
      rw [z, s4 _ _ e3] at eb
      cases eb
    have pick5 : ∀ (H6 : Hp) (j : Nat) (u : V), Same H5 H6 → (as.map V.ref)[j]? = some u → ∃ a r z, u = .ref a ∧ rows[j]? = some r ∧ hs[j]? = some z ∧ z.1 = r.1 ∧ H6 a = some (.tup [.int r.1, .ref z.2, .int r.2.2]) ∧ j < 40 := fun H6 j u s hu => by
      obtain ⟨a, r, z, h1, h2, h3, h4, h5, h6⟩ := pick H4 j u s4 hu
      exact ⟨a, r, z, h1, h2, h3, h4, s _ _ (b5 _ _ (ne4 _ _ h5) h5), h6⟩
    refine ⟨.ref R, rfl, R, rfl, ⟨_, .inl (.inl eR5)⟩, fun T nT => dc_tup (xs := as.map V.ref) (fun j H' => Same H5 H' ∧ H' T = some (.dK (kvT (rows.take j)))) ⟨same_new nT, upd_same⟩ (fun j H' _ z => .inl (.inl (z.1 _ _ eR5))) (fun j u H6 hu z => ?_) (fun H6 z => ?_)⟩
    · obtain ⟨s6, eT⟩ := z
      obtain ⟨a, r, zz, rfl, er, ez, e1, ea, lj⟩ := pick5 H6 j u s6 hu
      refine ⟨a, _, rfl, .inl (.inl ea), rfl, _, _, rfl, _, _, rfl, _, _, rfl, rfl, wipe_three, _, rfl, _, rfl, kvT (rows.take j), .inl r.1, rfl, eT, ?_, same_over s6 nT, ?_⟩
      · unfold kvT
        rw [List.length_map, List.length_take]
        exact small1000 (Nat.le_trans (Nat.min_le_left _ _) (by omega))
      · rw [upd_same, putK_new (fun kv hkv => ?_)]
        · unfold kvT
          rw [List.take_add_one, er, List.map_append]
          rfl
        · obtain ⟨w1, hw1, rfl⟩ := List.mem_map.mp hkv
          intro q0
          have q1 : w1.1 = r.1 := Sum.inl.inj q0
          refine nd_take nd (n := r.1) (i := j) (by rw [List.getElem?_map, er]; rfl) ?_
          rw [← q1, ← List.map_take]
          exact List.mem_map_of_mem hw1
    obtain ⟨s6, eT⟩ := z
    rw [List.take_of_length_le (by rw [List.length_map]; omega)] at eT
    have nTx : T ≠ x := fun z => by rw [z, e5] at nT; cases nT
    have nDT : D ≠ T := fun z => by rw [← z, eD5] at nT; cases nT
    refine ⟨.ref x, rfl, x, C, dx, _, rfl, s6 _ _ e5, X.cl, X.n5, (show 4 < 1000 by decide), ?_⟩
    rw [put5]
    have b07 : ∀ b o, b ≠ x → H b = some o → (upd H6 x (.ins C dx [("thing", .int (i : Int)), ("place", .int p), ("wish", .non), ("held", .ref D), ("tally", .ref T)])) b = some o := fun b o n eb => (upd_ne n).trans (s6 _ _ (b5 _ _ n (s4 _ _ (b3 _ _ n eb))))
    have tk7 : TupK H (upd H6 x (.ins C dx [("thing", .int (i : Int)), ("place", .int p), ("wish", .non), ("held", .ref D), ("tally", .ref T)])) := fun b xs eb => b07 b _ (nx b xs eb) eb
    have nTH : H T = none := by
      have z1 := n5 T nTx nT
      cases hq : H3 T with
      | none => rw [← f3 T nTx]; exact hq
      | some o =>
        rw [s4 _ _ hq] at z1
        cases z1
    refine q _ D T b07 ⟨dx, .non, hs, upd_same, rfl, .inl ((upd_ne nDx).trans (s6 _ _ eD5)), (upd_ne nTx).trans eT, held_of l2 fun j r z h1 h2 => ?_⟩ nDT (by rw [← f3 D nDx]; exact nD) nTH ⟨_, (upd_ne nDx).trans (s6 _ _ eD5)⟩
    have hj : j < as.length := by
      have := (List.getElem?_eq_some_iff.mp h1).1
      show j < as.length
      have h1' : j < rows.length := this
      omega
    have := f j _ r z (List.getElem?_eq_getElem hj) h1 h2
    exact ⟨this.1, this.2.2.tk tk7⟩
end
end K66

set_option Elab.async false
set_option linter.all false
set_option maxRecDepth 100000
namespace K66
open PySem PySem.Spec PyProof.Rows L2 NB

/-! ### what a hand tells is one -/
theorem sorted_uniq : ∀ {l m : List Int}, l.Perm m → l.Pairwise (· ≤ ·) → m.Pairwise (· ≤ ·) → l = m
  | [], m, p, _, _ => (List.nil_perm.mp p).symm
  | a :: l, [], p, _, _ => by
    have := p.length_eq
    cases this
  | a :: l, b :: m, p, hl, hm => by
    have h1 := (List.pairwise_cons.mp hl).1
    have h2 := (List.pairwise_cons.mp hm).1
    have e : a = b := by
      have ha : a ∈ b :: m := (p.mem_iff).mp List.mem_cons_self
      have hb : b ∈ a :: l := (p.mem_iff).mpr List.mem_cons_self
      rcases List.mem_cons.mp ha with h | h
      · exact h
      · rcases List.mem_cons.mp hb with k | k
        · exact k.symm
        · have q1 : b ≤ a := h2 a h
          have q2 : a ≤ b := h1 b k
          omega
    subst e
    rw [sorted_uniq (List.perm_cons a |>.mp p) (List.pairwise_cons.mp hl).2 (List.pairwise_cons.mp hm).2]
theorem strict_uniq : ∀ {l m : List Int}, (∀ k, k ∈ l ↔ k ∈ m) → l.Pairwise (· < ·) → m.Pairwise (· < ·) → l = m
  | [], [], _, _, _ => rfl
  | [], b :: m, h, _, _ => absurd ((h b).mpr List.mem_cons_self) List.not_mem_nil
  | a :: l, [], h, _, _ => absurd ((h a).mp List.mem_cons_self) List.not_mem_nil
  | a :: l, b :: m, h, hl, hm => by
    have h1 := List.pairwise_cons.mp hl
    have h2 := List.pairwise_cons.mp hm
    have e : a = b := by
      rcases List.mem_cons.mp ((h a).mp List.mem_cons_self) with k | k
      · exact k
      · rcases List.mem_cons.mp ((h b).mpr List.mem_cons_self) with k' | k'
        · exact k'.symm
        · have q1 := h2.1 a k
          have q2 := h1.1 b k'
          omega
    subst e
    rw [strict_uniq (fun k => ?_) h1.2 h2.2]
    constructor
    · intro hk
      rcases List.mem_cons.mp ((h k).mp (List.mem_cons_of_mem _ hk)) with z | z
      · have := h1.1 k hk
        omega
      · exact z
    · intro hk
      rcases List.mem_cons.mp ((h k).mpr (List.mem_cons_of_mem _ hk)) with z | z
      · have := h2.1 k hk
        omega
      · exact z
theorem ShL.uniq {h : Hd} {ys ys' : List Int} (a : ShL h ys) (b : ShL h ys') : ys = ys' := by
  obtain ⟨zs, p, s, rfl⟩ := a
  obtain ⟨zs', p', s', rfl⟩ := b
  rw [sorted_uniq (p.trans p'.symm) s s']
theorem LkL.uniq {h : Hd} {ys ys' : List Int} (a : LkL h ys) (b : LkL h ys') : ys = ys' := by
  rcases a with ⟨g, rfl⟩ | ⟨g, ss, s, rfl⟩
  · rcases b with ⟨_, rfl⟩ | ⟨g', _⟩
    · rfl
    · exact absurd g g'
  · rcases b with ⟨g', _⟩ | ⟨_, ss', s', rfl⟩
    · exact absurd g' g
    · rw [s.uniq s']
theorem BtL.uniq {h : Hd} {bs bs' : List Bt} (a : BtL h bs) (b : BtL h bs') : bs = bs' := by
  obtain ⟨ys, l, a⟩ := a
  obtain ⟨ys', l', b⟩ := b
  have e := l.uniq l'
  subst e
  rcases a with ⟨_, rfl⟩ | ⟨n, ss, ts, s, st, sm, rfl⟩
  · rcases b with ⟨_, rfl⟩ | ⟨n', _⟩
    · rfl
    · exact absurd ‹h.wish = none› n'
  · rcases b with ⟨n', _⟩ | ⟨_, ss', ts', s', st', sm', rfl⟩
    · exact absurd n' n
    · have e := s.uniq s'
      subst e
      rw [strict_uniq (fun k => (sm k).trans (sm' k).symm) st st']

/-! ### a letter heard twice -/
theorem putC_twice (rows : List (Int × Rl × Int)) (n c : Int) : putC (putC rows n c) n c = putC rows n c := by
  unfold putC
  rw [List.map_map]
  refine List.map_congr_left fun r _ => ?_
  show (if (if r.1 = n then (r.1, r.2.1, c) else r).1 = n then _ else _) = _
  by_cases h : r.1 = n
  · rw [if_pos h]
    simp [h]
  · rw [if_neg h]
    simp [h]
theorem setc_twice (h : Hd) (n c : Int) : (h.setc n c).setc n c = h.setc n c := by
  show ({ h with rows := putC (putC h.rows n c) n c } : Hd) = { h with rows := putC h.rows n c }
  rw [putC_twice]
theorem hw_not {h : Hd} {o : Option Wi} (n : ¬ wishN o > wishN h.wish) : h.hw o = h := by
  unfold Hd.hw
  rw [if_neg n]
theorem hw_ge (h : Hd) (o : Option Wi) : ¬ wishN o > wishN (h.hw o).wish := by
  unfold Hd.hw
  split
  · show ¬ wishN o > wishN o
    omega
  · assumption
theorem mx_ge (i j : Int) : i ≤ mx i j ∧ j ≤ mx i j := by
  unfold mx
  split <;> omega
theorem mx_same {i j : Int} (h : j ≤ i) : mx i j = i := by
  unfold mx
  rw [if_neg (by omega)]
theorem setc_wish (h : Hd) (n c : Int) : (h.setc n c).wish = h.wish := rfl
theorem look_setc {h : Hd} {n c : Int} {z : Rl × Int} (e : look h.rows n = some z) : look (h.setc n c).rows n = some (z.1, c) := by
  show look (putC h.rows n c) n = _
  rw [look_put, e]
  simp
theorem hear_at {h : Hd} {a : Str} {n k : Int} {o : Option Wi} {z : Rl × Int} (e : look h.rows n = some z) (s : shrd z.1 = true) : h.hear (a, [n, k], o) = (h.hw o).hear2 a o n k z := by
  rw [hear_two, e]
  exact if_pos s
/-- a letter heard once more at once is answered alike and changes nothing -/
theorem hear_again {h : Hd} {a : Str} {n k : Int} {o : Option Wi} {z : Rl × Int} (e : look h.rows n = some z) (s : shrd z.1 = true) :
    (h.hear (a, [n, k], o)).1.hear (a, [n, k], o) = h.hear (a, [n, k], o) := by
  rw [hear_at e s]
  have hg := hw_ge h o
  have er : look (h.hw o).rows n = some z := by rw [hw_rows]; exact e
  generalize h.hw o = g at hg er
  have em := look_setc (c := mx z.2 k) er
  have km := (mx_ge z.2 k).2
  unfold Hd.hear2
  by_cases c : (decide (a = "leave") || decide (wishN o < wishN g.wish)) = true
  · rw [if_pos c, hear_at em s, hw_not (h := g.setc n (mx z.2 k)) hg]
    unfold Hd.hear2
    rw [if_pos (show (decide (a = "leave") || decide (wishN o < wishN (g.setc n (mx z.2 k)).wish)) = true from c), mx_same km, setc_twice]
  · rw [if_neg c, ans_of em]
    generalize hG : g.setc n (mx z.2 k) = G at em ⊢
    have wG : G.wish = g.wish := by rw [← hG]; rfl
    have eu := look_hup (k := k) em
    have wu : (G.hup n (z.1, mx z.2 k) k).wish = g.wish := by rw [hup_wish, wG]
    have ku : k ≤ G.cup (z.1, mx z.2 k) k := by
      unfold Hd.cup
      split
      · show k ≤ mx z.2 k + 1
        omega
      · exact km
    rw [hear_at eu s, hw_not (by rw [wu]; exact hg)]
    unfold Hd.hear2
    rw [wu, if_neg c, mx_same ku]
    have same : (G.hup n (z.1, mx z.2 k) k).setc n (G.cup (z.1, mx z.2 k) k) = G.hup n (z.1, mx z.2 k) k := by
      unfold Hd.hup Hd.cup
      by_cases q : G.cnd (z.1, mx z.2 k) k = true
      · rw [if_pos q, if_pos q, setc_twice]
      · rw [if_neg q, if_neg q, ← hG, setc_twice]
    rw [same, ans_of eu]
    have nc : (G.hup n (z.1, mx z.2 k) k).cnd (z.1, G.cup (z.1, mx z.2 k) k) k = false := by
      by_cases q : G.cnd (z.1, mx z.2 k) k = true
      · have q0 := q
        unfold Hd.cnd at q0
        have q1 : mx z.2 k = k := of_decide_eq_true (Bool.and_eq_true_iff.mp q0).1
        have e2 : G.cup (z.1, mx z.2 k) k = mx z.2 k + 1 := by unfold Hd.cup; rw [if_pos q]
        rw [e2]
        unfold Hd.cnd
        refine Bool.and_eq_false_iff.mpr (.inl (decide_eq_false ?_))
        show ¬ mx z.2 k + 1 = k
        omega
      · have q' : G.cnd (z.1, mx z.2 k) k = false := Bool.eq_false_iff.mpr q
        have e1 : G.hup n (z.1, mx z.2 k) k = G := by unfold Hd.hup; rw [if_neg q]
        have e2 : G.cup (z.1, mx z.2 k) k = mx z.2 k := by unfold Hd.cup; rw [if_neg q]
        rw [e1, e2]
        exact q'
    have th := hup_thing G n (z.1, mx z.2 k) k
    have wh := hup_wish G n (z.1, mx z.2 k) k
    generalize G.hup n (z.1, mx z.2 k) k = U at nc th wh
    generalize G.cup (z.1, mx z.2 k) k = c' at nc
    have e3 : U.hup n (z.1, c') k = U := by unfold Hd.hup; rw [if_neg (by rw [nc]; decide)]
    have e4 : U.cup (z.1, c') k = c' := by unfold Hd.cup; rw [if_neg (by rw [nc]; decide)]
    rw [e3, e4, th, wh]
end K66

set_option Elab.async false
set_option linter.all false
set_option maxRecDepth 100000
namespace K66
open PySem PySem.Spec PyProof.Rows L2 NB

/-! ### rules put and dropped -/
def dropR (rows : List (Int × Rl × Int)) (n : Int) : List (Int × Rl × Int) := rows.filter fun r => decide (r.1 ≠ n)
theorem dropR_keys (rows : List (Int × Rl × Int)) (n : Int) : (dropR rows n).map (·.1) = (rows.map (·.1)).filter fun m => decide (m ≠ n) := by
  unfold dropR
  rw [List.filter_map]
  rfl
theorem drop_kvT (rows : List (Int × Rl × Int)) (n : Int) : dropK (kvT rows) (Sum.inl n) = kvT (dropR rows n) := by
  unfold dropK kvT dropR
  rw [List.filter_map]
  congr 1
  refine List.filter_congr fun r _ => ?_
  exact decide_eq_decide.mpr (not_congr ⟨fun h => Sum.inl.inj h, fun h => congrArg Sum.inl h⟩)
theorem drop_kvH (hs : List (Int × Addr)) (n : Int) : dropK (kvH hs) (Sum.inl n) = kvH (hs.filter fun z => decide (z.1 ≠ n)) := by
  unfold dropK kvH
  rw [List.filter_map]
  congr 1
  refine List.filter_congr fun r _ => ?_
  exact decide_eq_decide.mpr (not_congr ⟨fun h => Sum.inl.inj h, fun h => congrArg Sum.inl h⟩)
theorem Held.drop {H : Hp} (n : Int) : ∀ {hs : List (Int × Addr)} {rows : List (Int × Rl × Int)}, Held H hs rows → Held H (hs.filter fun z => decide (z.1 ≠ n)) (dropR rows n)
  | [], [], _ => trivial
  | z :: hs, r :: rows, ⟨e, g, c⟩ => by
    have ih := Held.drop n c
    unfold dropR at ih ⊢
    by_cases hn : z.1 = n
    · rw [List.filter_cons_of_neg (by rw [decide_eq_true_eq]; exact fun q => q hn), List.filter_cons_of_neg (by rw [decide_eq_true_eq, ← e]; exact fun q => q hn)]
      exact ih
    · rw [List.filter_cons_of_pos (p := fun z : Int × Addr => decide (z.1 ≠ n)) (decide_eq_true hn), List.filter_cons_of_pos (p := fun r : Int × Rl × Int => decide (r.1 ≠ n)) (decide_eq_true (by rw [← e]; exact hn))]
      exact ⟨e, g, ih⟩
  | [], _ :: _, h => h.elim
  | _ :: _, [], h => h.elim
theorem valK_none {rows : List (Int × Rl × Int)} {n : Int} (h : n ∉ rows.map (·.1)) : look rows n = none := by
  cases e : look rows n with
  | none => rfl
  | some z =>
    refine absurd ?_ h
    unfold look at e
    cases hf : rows.find? fun r => decide (r.1 = n) with
    | none => rw [hf] at e; cases e
    | some y =>
      have h2 := List.find?_some hf
      have h3 : y.1 = n := of_decide_eq_true h2
      rw [← h3]
      exact List.mem_map_of_mem (f := fun r : Int × Rl × Int => r.1) (List.mem_of_find?_eq_some hf)
theorem look_key {rows : List (Int × Rl × Int)} {n : Int} (h : n ∈ rows.map (·.1)) : ∃ z, look rows n = some z := by
  obtain ⟨q, c, e⟩ := look_of h
  exact ⟨_, e⟩
theorem Held.snocH {H : Hp} {r : Int × Rl × Int} {a : Addr} (hr : RuleAt H a r.2.1) : ∀ {hs : List (Int × Addr)} {rows : List (Int × Rl × Int)}, Held H hs rows → Held H (hs ++ [(r.1, a)]) (rows ++ [r])
  | [], [], _ => ⟨rfl, hr, trivial⟩
  | _ :: _, _ :: _, ⟨x, y, c⟩ => ⟨x, y, Held.snocH hr c⟩
  | [], _ :: _, h => h.elim
  | _ :: _, [], h => h.elim
theorem putH_new {H : Hp} {hs : List (Int × Addr)} {rows : List (Int × Rl × Int)} (l : Held H hs rows) {n : Int} (hn : n ∉ rows.map (·.1)) (r : Addr) : putK (kvH hs) (Sum.inl n) (.ref r) = kvH (hs ++ [(n, r)]) := by
  rw [putK_new (fun kv hkv => ?_)]
  · unfold kvH
    rw [List.map_append]
    rfl
  · unfold kvH at hkv
    obtain ⟨z, hz, rfl⟩ := List.mem_map.mp hkv
    intro q0
    refine hn ?_
    rw [← Sum.inl.inj q0, ← l.keys]
    exact List.mem_map_of_mem hz
theorem putT_new {rows : List (Int × Rl × Int)} {n : Int} (hn : n ∉ rows.map (·.1)) (q : Rl) (c : Int) : putK (kvT rows) (Sum.inl n) (.int c) = kvT (rows ++ [(n, q, c)]) := by
  rw [putK_new (fun kv hkv => ?_)]
  · unfold kvT
    rw [List.map_append]
    rfl
  · unfold kvT at hkv
    obtain ⟨z, hz, rfl⟩ := List.mem_map.mp hkv
    intro q0
    refine hn ?_
    rw [← Sum.inl.inj q0]
    exact List.mem_map_of_mem hz
def spHPut (C : Addr) : Sp := fun vs H Q _ => ∃ (x D T r : Addr) (h : Hd) (n c : Int) (rl : Rl), vs = [.ref x, .int n, .ref r, .int c] ∧ HandAt C H x D T h ∧ D ≠ T ∧ (∃ kvs, H D = some (.dK kvs)) ∧ RuleAt H r rl ∧ n ∉ h.rows.map (·.1) ∧ h.rows.length ≤ 60 ∧
  ∀ H', (∀ b o, b ≠ D → b ≠ T → H b = some o → H' b = some o) → HandAt C H' x D T { h with rows := h.rows ++ [(n, rl, c)] } → (∃ kvs, H' D = some (.dK kvs)) → Q .non H'
def spHDrop (C : Addr) : Sp := fun vs H Q _ => ∃ (x D T : Addr) (h : Hd) (n : Int), vs = [.ref x, .int n] ∧ HandAt C H x D T h ∧ D ≠ T ∧ (∃ kvs, H D = some (.dK kvs)) ∧ n ∈ h.rows.map (·.1) ∧
  ∀ H', (∀ b o, b ≠ D → b ≠ T → H b = some o → H' b = some o) → HandAt C H' x D T { h with rows := dropR h.rows n } → (∃ kvs, H' D = some (.dK kvs)) → Q .non H'
section
variable {P : Program} {w : World} {K : PySem.W.Frag} {mg : Str → Option Value} {base : Heap}
abbrev a_Hand_put : Stmt := inClass (topS 36) 14
abbrev n_Hand_put : List Str := ["self", "number", "rule", "count"]
theorem sc_Hand_put : FnScope n_Hand_put ["self", "number", "rule", "count"] (defScope a_Hand_put) := ⟨rfl, rfl, rfl, by decide +kernel, rfl, by decide +kernel, by decide +kernel⟩
set_option maxHeartbeats 8000000 in
theorem ok_Hand_put {f fWh : Addr} {fd fdWh : FuncData} {k : Nat} {C : Addr} (F : Fun K "put" "Hand.put" a_Hand_put f fd) (Wh : Kn P w K mg base 1 "is_whole" ["thing"] (spLook wholeD) fWh fdWh) (X : HandTxt K C)  : FnOk P w K mg base CX0 (k + 3) f fd ["self", "number", "rule", "count"] (spHPut C) := by
  refine F.ok sc_Hand_put (fun vs H Q E h => ?_) (fun cdv A outer s H vs Q E hr h => ?_)
  · obtain ⟨x, D, T, r, h, n, c, rl, rfl, _⟩ := h
    rfl
  · obtain ⟨x, D, T, r, h, n, c, rl, rfl, ha, hDT, hD, rA, hn, l40, q⟩ := h
    refine ⟨_, (pss_cons (ps_if (PW.pt (pw_or (pt_not (pt_val (pe_kn Wh hr (by omega) (pa_cons (pv 1) pa_nil)))) (pw_or1 (pt_cmp (pc_din (hu_of hr) (pv 1) (pe_fld (pv 0) rfl)))))) (pss_one (ps_never)) pss_nil)
      (pss_cons (ps_asg (pv 2) (pg_sub (pe_fld (pv 0) rfl) (pv 1) (set_dict (hu_of hr))))
      (pss_one (ps_asg (pv 3) (pg_sub (pe_fld (pv 0) rfl) (pv 1) (set_dict (hu_of hr))))))), ?_⟩
    obtain ⟨dx, v, hs, e, w1, d, t, l⟩ := ha
    have e' : H x = some (.ins C dx [("thing", .int (h.thing : Int)), ("place", .int h.place), ("wish", v), ("held", .ref D), ("tally", .ref T)]) := e
    have d0 : H D = some (.dK (kvH hs)) := by
      obtain ⟨kvs, hk⟩ := hD
      rcases d with d | ⟨od, d⟩
      · exact d
      · rw [hk] at d
        cases d
    refine ⟨_, rfl, 0, .int n, _, rfl, .int n, fun H1 s1 => ⟨true, rfl, iteF ?_⟩⟩
    have e1 := s1 _ _ e'
    have d1 := s1 _ _ d0
    have t1 := s1 _ _ t
    have l1 := l.keep (.same s1)
    have r1 := rA.keep (.same s1)
    have w2 := w1.keep (.same s1)
    have vn : valV (kvH hs) (Sum.inl n) = none := by
      rcases valH n l with ⟨_, a2⟩ | ⟨q', c', a, a1, _⟩
      · exact a2
      · rw [valK_none hn] at a1
        cases a1
    have kl : hs.length = h.rows.length := by
      have := congrArg List.length l.keys
      rw [List.length_map, List.length_map] at this
      exact this
    refine ⟨_, rfl, .ref x, rfl, x, C, dx, _, _, rfl, e1, X.cl, X.n4, lk4, D, valV (kvH hs) (.inl n), rfl, DGr (k := .inl n) (.inl d1), _, rfl, ?_⟩
    rw [vn]
    refine iteF ⟨_, rfl, .ref x, rfl, x, C, dx, _, _, rfl, e1, X.cl, X.n4, lk4, _, rfl, D, _, rfl, DPut.k (k := .inl n) d1 (by unfold kvH; rw [List.length_map]; exact small1000 (by omega)), ?_⟩
    rw [putH_new l1 hn]
    have nxD : x ≠ D := fun z => by rw [z, d0] at e'; cases e'
    have nxT : x ≠ T := fun z => by rw [z, t] at e'; cases e'
    have tk1 : TupK H1 (upd H1 D (.dK (kvH (hs ++ [(n, r)])))) := fun b xs eb => (upd_ne (fun z => by rw [z, d1] at eb; cases eb)).trans eb
    have e2 : (upd H1 D (.dK (kvH (hs ++ [(n, r)])))) x = some (.ins C dx [("thing", .int (h.thing : Int)), ("place", .int h.place), ("wish", v), ("held", .ref D), ("tally", .ref T)]) := (upd_ne nxD).trans e1
    have t2 : (upd H1 D (.dK (kvH (hs ++ [(n, r)])))) T = some (.dK (kvT h.rows)) := (upd_ne hDT.symm).trans t1
    have d2 : (upd H1 D (.dK (kvH (hs ++ [(n, r)])))) D = some (.dK (kvH (hs ++ [(n, r)]))) := upd_same
    have k2 : ∀ b o, b ≠ D → H1 b = some o → (upd H1 D (.dK (kvH (hs ++ [(n, r)])))) b = some o := fun b o nb eb => (upd_ne nb).trans eb
    generalize upd H1 D (.dK (kvH (hs ++ [(n, r)]))) = H2 at tk1 e2 t2 d2 k2 ⊢
    refine ⟨_, rfl, .ref x, rfl, x, C, dx, _, _, rfl, e2, X.cl, X.n5, lk5, _, rfl, T, _, rfl, DPut.k (k := .inl n) t2 (by unfold kvT; rw [List.length_map]; exact small1000 (by omega)), ?_⟩
    rw [putT_new hn rl c]
    have tk2 : TupK H2 (upd H2 T (.dK (kvT (h.rows ++ [(n, rl, c)])))) := fun b xs eb => (upd_ne (fun z => by rw [z, t2] at eb; cases eb)).trans eb
    exact q _ (fun b o n1 n2 eb => (upd_ne n2).trans (k2 b o n1 (s1 _ _ eb))) ⟨dx, v, hs ++ [(n, r)], (upd_ne nxT).trans e2, (w2.tk tk1).tk tk2, .inl ((upd_ne hDT).trans d2), upd_same, Held.snocH (r := (n, rl, c)) ((r1.tk tk1).tk tk2) ((l1.tk tk1).tk tk2)⟩ ⟨_, (upd_ne hDT).trans d2⟩
end
end K66

set_option Elab.async false
set_option linter.all false
set_option maxRecDepth 100000
namespace K66
open PySem PySem.Spec PyProof.Rows L2 NB

/-! ### the state of a hall -/
structure Sta where
  tops : List Int
  rules : List (Int × Rl)
  hands : List Hd
  letters : List (Int × Int × Lt)
  nm : Int
  nr : Int
  lw : Int
  ag : Int
/-- a hand's own objects: itself, its rules, its counts -/
abbrev HA := Addr × Addr × Addr
def HsAt (C : Addr) (H : Hp) : List HA → List Hd → Prop
  | [], [] => True
  | z :: zs, h :: hs => (HandAt C H z.1 z.2.1 z.2.2 h ∧ ∃ kvs, H z.2.1 = some (.dK kvs)) ∧ HsAt C H zs hs
  | _, _ => False
theorem HsAt.len {C : Addr} {H : Hp} : ∀ {zs : List HA} {hs : List Hd}, HsAt C H zs hs → zs.length = hs.length
  | [], [], _ => rfl
  | _ :: _, _ :: _, ⟨_, h⟩ => by rw [List.length_cons, List.length_cons, h.len]
  | [], _ :: _, h => h.elim
  | _ :: _, [], h => h.elim
theorem HsAt.same {C : Addr} {H H' : Hp} (s : Same H H') : ∀ {zs : List HA} {hs : List Hd}, HsAt C H zs hs → HsAt C H' zs hs
  | [], [], _ => trivial
  | _ :: _, _ :: _, ⟨⟨a, k, u⟩, h⟩ => ⟨⟨a.same s, k, s _ _ u⟩, h.same s⟩
  | [], _ :: _, h => h.elim
  | _ :: _, [], h => h.elim
theorem HsAt.get {C : Addr} {H : Hp} : ∀ {zs : List HA} {hs : List Hd} {i : Nat} {z : HA}, HsAt C H zs hs → zs[i]? = some z → ∃ h, hs[i]? = some h ∧ HandAt C H z.1 z.2.1 z.2.2 h ∧ ∃ kvs, H z.2.1 = some (.dK kvs)
  | _ :: _, h :: _, 0, _, ⟨a, _⟩, e => by cases e; exact ⟨h, rfl, a⟩
  | _ :: _, _ :: _, i + 1, _, ⟨_, t⟩, e => t.get (i := i) e
  | [], [], _, _, _, e => by rw [List.getElem?_nil] at e; cases e
  | [], _ :: _, _, _, h, _ => h.elim
  | _ :: _, [], _, _, h, _ => h.elim
def hAs (z : HA) : List Addr := [z.1, z.2.1, z.2.2]
def ownH (zs : List HA) : List Addr := zs.flatMap hAs
/-- all but these stays -/
def ButL (l : List Addr) (H H' : Hp) : Prop := ∀ b o, b ∉ l → H b = some o → H' b = some o
theorem ButL.refl {l : List Addr} {H : Hp} : ButL l H H := fun _ _ _ e => e
theorem ButL.of {l : List Addr} {H H' : Hp} (s : Same H H') : ButL l H H' := fun b o _ e => s b o e
theorem ButL.trans {l : List Addr} {H H1 H2 : Hp} (a : ButL l H H1) (b : ButL l H1 H2) : ButL l H H2 := fun c o n e => b c o n (a c o n e)
theorem ButL.mono {l m : List Addr} {H H' : Hp} (a : ButL l H H') (s : ∀ b, b ∈ l → b ∈ m) : ButL m H H' := fun c o n e => a c o (fun h => n (s c h)) e
/-- what was there before all these were new stays -/
theorem ButL.old {l : List Addr} {H0 H H' : Hp} (s : Same H0 H) (b : ButL l H H') (n : ∀ c ∈ l, H0 c = none) : Same H0 H' := fun c o e => b c o (fun h => by rw [n c h] at e; cases e) (s c o e)
/-- a hand far from what changes -/
theorem HandAt.farL {C : Addr} {H H' : Hp} {x D T : Addr} {h : Hd} {l : List Addr} (a : HandAt C H x D T h) (k : ButL l H H') (tk : TupK H H') (nx : x ∉ l) (nD : D ∉ l) (nT : T ∉ l) : HandAt C H' x D T h := by
  obtain ⟨dx, v, hs, e, w, d, t, q⟩ := a
  refine ⟨dx, v, hs, k _ _ nx e, w.tk tk, ?_, k _ _ nT t, q.tk tk⟩
  rcases d with d | ⟨od, d⟩
  · exact .inl (k _ _ nD d)
  · exact .inr ⟨od, k _ _ nD d⟩
theorem HsAt.farL {C : Addr} {H H' : Hp} {l : List Addr} (k : ButL l H H') (tk : TupK H H') : ∀ {zs : List HA} {hs : List Hd}, HsAt C H zs hs → (∀ b ∈ ownH zs, b ∉ l) → HsAt C H' zs hs
  | [], [], _, _ => trivial
  | z :: zs, _ :: _, ⟨⟨a, kv, u⟩, h⟩, n => by
    have n1 : ∀ b ∈ hAs z, b ∉ l := fun b hb => n b (List.mem_flatMap.mpr ⟨z, List.mem_cons_self, hb⟩)
    exact ⟨⟨a.farL k tk (n1 _ (by simp [hAs])) (n1 _ (by simp [hAs])) (n1 _ (by simp [hAs])), kv, k _ _ (n1 _ (by simp [hAs])) u⟩, h.farL k tk fun b hb => n b (by
      obtain ⟨y, hy, e⟩ := List.mem_flatMap.mp hb
      exact List.mem_flatMap.mpr ⟨y, List.mem_cons_of_mem _ hy, e⟩)⟩
  | [], _ :: _, h, _ => h.elim
  | _ :: _, [], h, _ => h.elim
/-- one hand of them changes -/
theorem HsAt.set {C : Addr} {H H' : Hp} : ∀ {zs : List HA} {hs : List Hd} {i : Nat} {z : HA} {h' : Hd}, HsAt C H zs hs → (ownH zs).Nodup → zs[i]? = some z → ButL (hAs z) H H' → TupK H H' → HandAt C H' z.1 z.2.1 z.2.2 h' → (∃ kvs, H' z.2.1 = some (.dK kvs)) → HsAt C H' zs (hs.set i h')
  | y :: zs, _ :: _, 0, z, h', ⟨_, t⟩, nd, e, k, tk, a, u => by
    have e' : y = z := Option.some.inj e
    subst e'
    have nd' : (hAs y ++ ownH zs).Nodup := nd
    rw [List.nodup_append] at nd'
    exact ⟨⟨a, u⟩, t.farL k tk fun b hb hz => nd'.2.2 b hz b hb rfl⟩
  | y :: zs, _ :: _, i + 1, z, h', ⟨⟨a0, kv, u0⟩, t⟩, nd, e, k, tk, a, u => by
    have nd' : (hAs y ++ ownH zs).Nodup := nd
    rw [List.nodup_append] at nd'
    have hz : z ∈ zs := List.mem_of_getElem? (show zs[i]? = some z from e)
    have n1 : ∀ b ∈ hAs y, b ∉ hAs z := fun b hb hb' => nd'.2.2 b hb b (List.mem_flatMap.mpr ⟨z, hz, hb'⟩) rfl
    exact ⟨⟨a0.farL k tk (n1 _ (by simp [hAs])) (n1 _ (by simp [hAs])) (n1 _ (by simp [hAs])), kv, k _ _ (n1 _ (by simp [hAs])) u0⟩, t.set (i := i) nd'.2.1 e k tk a u⟩
  | [], [], _, _, _, _, _, e, _, _, _, _ => by rw [List.getElem?_nil] at e; cases e
  | [], _ :: _, _, _, _, h, _, _, _, _, _, _ => h.elim
  | _ :: _, [], _, _, _, h, _, _, _, _, _, _ => h.elim
/-- the rules by their numbers -/
def RsAt (H : Hp) (rs : List (Int × Addr)) (rules : List (Int × Rl)) : Prop := rs.map (·.1) = rules.map (·.1) ∧ ∀ (i : Nat) z r, rs[i]? = some z → rules[i]? = some r → RuleAt H z.2 r.2
theorem RsAt.tk {H H' : Hp} {rs : List (Int × Addr)} {rules : List (Int × Rl)} (a : RsAt H rs rules) (k : TupK H H') : RsAt H' rs rules := ⟨a.1, fun i z r h1 h2 => (a.2 i z r h1 h2).tk k⟩
theorem RsAt.len {H : Hp} {rs : List (Int × Addr)} {rules : List (Int × Rl)} (a : RsAt H rs rules) : rs.length = rules.length := by
  have := congrArg List.length a.1
  rw [List.length_map, List.length_map] at this
  exact this
theorem RsAt.snoc {H : Hp} {rs : List (Int × Addr)} {rules : List (Int × Rl)} {n : Int} {r : Addr} {q : Rl} (a : RsAt H rs rules) (e : RuleAt H r q) : RsAt H (rs ++ [(n, r)]) (rules ++ [(n, q)]) := by
  have l := a.len
  refine ⟨by rw [List.map_append, List.map_append, a.1]; rfl, fun i z r' h1 h2 => ?_⟩
  rcases Nat.lt_or_ge i rs.length with c | c
  · rw [List.getElem?_append_left c] at h1
    rw [List.getElem?_append_left (by omega)] at h2
    exact a.2 i z r' h1 h2
  · have hl := (List.getElem?_eq_some_iff.mp h1).1
    rw [List.length_append, List.length_singleton] at hl
    have i0 : i = rs.length := by omega
    rw [i0, List.getElem?_append_right (Nat.le_refl _), Nat.sub_self] at h1
    rw [i0, l, List.getElem?_append_right (Nat.le_refl _), Nat.sub_self] at h2
    cases h1
    cases h2
    exact e
/-- the letters under way -/
def LwAt (H : Hp) (ls : List Addr) (letters : List (Int × Int × Lt)) : Prop := ls.length = letters.length ∧ ∀ (i : Nat) a l, ls[i]? = some a → letters[i]? = some l → ∃ p, H a = some (.tup [.int l.1, .int l.2.1, .ref p]) ∧ LetAt H p l.2.2
theorem LwAt.tk {H H' : Hp} {ls : List Addr} {letters : List (Int × Int × Lt)} (a : LwAt H ls letters) (k : TupK H H') : LwAt H' ls letters := ⟨a.1, fun i z l h1 h2 => by
  obtain ⟨p, e1, e2⟩ := a.2 i z l h1 h2
  exact ⟨p, k _ _ e1, e2.tk k⟩⟩
theorem LwAt.snoc {H : Hp} {ls : List Addr} {letters : List (Int × Int × Lt)} {a p : Addr} {l : Int × Int × Lt} (h : LwAt H ls letters) (e1 : H a = some (.tup [.int l.1, .int l.2.1, .ref p])) (e2 : LetAt H p l.2.2) : LwAt H (ls ++ [a]) (letters ++ [l]) := by
  refine ⟨by rw [List.length_append, List.length_append, h.1]; rfl, fun i z r' h1 h2 => ?_⟩
  have l' := h.1
  rcases Nat.lt_or_ge i ls.length with c | c
  · rw [List.getElem?_append_left c] at h1
    rw [List.getElem?_append_left (by omega)] at h2
    exact h.2 i z r' h1 h2
  · have hl := (List.getElem?_eq_some_iff.mp h1).1
    rw [List.length_append, List.length_singleton] at hl
    have i0 : i = ls.length := by omega
    rw [i0, List.getElem?_append_right (Nat.le_refl _), Nat.sub_self] at h1
    rw [i0, l', List.getElem?_append_right (Nat.le_refl _), Nat.sub_self] at h2
    cases h1
    cases h2
    exact ⟨p, e1, e2⟩
/-- the fields of a state -/
def stF (t r h l m n w g : V) : List (Str × V) := [("tops", t), ("rules", r), ("hands", h), ("letters", l), ("next_mark", m), ("next_rule", n), ("last_wish", w), ("all_gone", g)]
/-- a state in the heap; its own objects: itself, the dict of rules, the lists of hands and letters, and what is the hands' -/
structure StAt (CS C : Addr) (H : Hp) (s ds tp R Hs Ls : Addr) (zs : List HA) (rs : List (Int × Addr)) (ls : List Addr) (σ : Sta) : Prop where
  fs : H s = some (.ins CS ds (stF (.ref tp) (.ref R) (.ref Hs) (.ref Ls) (.int σ.nm) (.int σ.nr) (.int σ.lw) (.int σ.ag)))
  ft : H tp = some (.tup (σ.tops.map V.int))
  fr : H R = some (.dK (kvH rs))
  fru : RsAt H rs σ.rules
  fh : H Hs = some (.lst (zs.map fun z => V.ref z.1))
  fhs : HsAt C H zs σ.hands
  fl : H Ls = some (.lst (ls.map V.ref))
  fla : LwAt H ls σ.letters
  fnd : ([s, R, Hs, Ls] ++ ownH zs).Nodup
def StX (CS C : Addr) (H : Hp) (s : Addr) (own : List Addr) (σ : Sta) : Prop := ∃ ds tp R Hs Ls zs rs ls, own = [s, R, Hs, Ls] ++ ownH zs ∧ StAt CS C H s ds tp R Hs Ls zs rs ls σ
theorem StAt.same {CS C : Addr} {H H' : Hp} {s ds tp R Hs Ls : Addr} {zs : List HA} {rs : List (Int × Addr)} {ls : List Addr} {σ : Sta} (a : StAt CS C H s ds tp R Hs Ls zs rs ls σ) (k : Same H H') : StAt CS C H' s ds tp R Hs Ls zs rs ls σ :=
  ⟨k _ _ a.fs, k _ _ a.ft, k _ _ a.fr, a.fru.tk (tk_same k), k _ _ a.fh, a.fhs.same k, k _ _ a.fl, a.fla.tk (tk_same k), a.fnd⟩
theorem StX.same {CS C : Addr} {H H' : Hp} {s : Addr} {own : List Addr} {σ : Sta} (a : StX CS C H s own σ) (k : Same H H') : StX CS C H' s own σ := by
  obtain ⟨ds, tp, R, Hs, Ls, zs, rs, ls, e, a⟩ := a
  exact ⟨ds, tp, R, Hs, Ls, zs, rs, ls, e, a.same k⟩
end K66

set_option Elab.async false
set_option linter.all false
set_option maxRecDepth 100000
namespace K66
open PySem PySem.Spec PyProof.Rows L2 NB

/-! ### the fields of a state -/
structure StateTxt (K : PySem.W.Frag) (C : Addr) : Prop where
  cl : Cls K C
  n1 : NoAttr K C "tops"
  n2 : NoAttr K C "rules"
  n3 : NoAttr K C "hands"
  n4 : NoAttr K C "letters"
  n5 : NoAttr K C "next_mark"
  n6 : NoAttr K C "next_rule"
  n7 : NoAttr K C "last_wish"
  n8 : NoAttr K C "all_gone"
section
variable {t r h l m n w g : V}
theorem sk1 : (stF t r h l m n w g).lookup ("tops" : Str) = some t := by
  simp [stF, List.lookup]
theorem sk2 : (stF t r h l m n w g).lookup ("rules" : Str) = some r := by
  have n0 : (("rules" : Str) == "tops") = false := by decide +kernel
  simp [stF, List.lookup, n0]
theorem sk3 : (stF t r h l m n w g).lookup ("hands" : Str) = some h := by
  have n0 : (("hands" : Str) == "tops") = false := by decide +kernel
  have n1 : (("hands" : Str) == "rules") = false := by decide +kernel
  simp [stF, List.lookup, n0, n1]
theorem sk4 : (stF t r h l m n w g).lookup ("letters" : Str) = some l := by
  have n0 : (("letters" : Str) == "tops") = false := by decide +kernel
  have n1 : (("letters" : Str) == "rules") = false := by decide +kernel
  have n2 : (("letters" : Str) == "hands") = false := by decide +kernel
  simp [stF, List.lookup, n0, n1, n2]
theorem sk5 : (stF t r h l m n w g).lookup ("next_mark" : Str) = some m := by
  have n0 : (("next_mark" : Str) == "tops") = false := by decide +kernel
  have n1 : (("next_mark" : Str) == "rules") = false := by decide +kernel
  have n2 : (("next_mark" : Str) == "hands") = false := by decide +kernel
  have n3 : (("next_mark" : Str) == "letters") = false := by decide +kernel
  simp [stF, List.lookup, n0, n1, n2, n3]
theorem sk6 : (stF t r h l m n w g).lookup ("next_rule" : Str) = some n := by
  have n0 : (("next_rule" : Str) == "tops") = false := by decide +kernel
  have n1 : (("next_rule" : Str) == "rules") = false := by decide +kernel
  have n2 : (("next_rule" : Str) == "hands") = false := by decide +kernel
  have n3 : (("next_rule" : Str) == "letters") = false := by decide +kernel
  have n4 : (("next_rule" : Str) == "next_mark") = false := by decide +kernel
  simp [stF, List.lookup, n0, n1, n2, n3, n4]
theorem sk7 : (stF t r h l m n w g).lookup ("last_wish" : Str) = some w := by
  have n0 : (("last_wish" : Str) == "tops") = false := by decide +kernel
  have n1 : (("last_wish" : Str) == "rules") = false := by decide +kernel
  have n2 : (("last_wish" : Str) == "hands") = false := by decide +kernel
  have n3 : (("last_wish" : Str) == "letters") = false := by decide +kernel
  have n4 : (("last_wish" : Str) == "next_mark") = false := by decide +kernel
  have n5 : (("last_wish" : Str) == "next_rule") = false := by decide +kernel
  simp [stF, List.lookup, n0, n1, n2, n3, n4, n5]
theorem sk8 : (stF t r h l m n w g).lookup ("all_gone" : Str) = some g := by
  have n0 : (("all_gone" : Str) == "tops") = false := by decide +kernel
  have n1 : (("all_gone" : Str) == "rules") = false := by decide +kernel
  have n2 : (("all_gone" : Str) == "hands") = false := by decide +kernel
  have n3 : (("all_gone" : Str) == "letters") = false := by decide +kernel
  have n4 : (("all_gone" : Str) == "next_mark") = false := by decide +kernel
  have n5 : (("all_gone" : Str) == "next_rule") = false := by decide +kernel
  have n6 : (("all_gone" : Str) == "last_wish") = false := by decide +kernel
  simp [stF, List.lookup, n0, n1, n2, n3, n4, n5, n6]
theorem sp1 {u : V} : putF "tops" u (stF t r h l m n w g) = stF u r h l m n w g := by
  have n1 : ¬ (("rules" : Str) = "tops") := by decide +kernel
  have n2 : ¬ (("hands" : Str) = "tops") := by decide +kernel
  have n3 : ¬ (("letters" : Str) = "tops") := by decide +kernel
  have n4 : ¬ (("next_mark" : Str) = "tops") := by decide +kernel
  have n5 : ¬ (("next_rule" : Str) = "tops") := by decide +kernel
  have n6 : ¬ (("last_wish" : Str) = "tops") := by decide +kernel
  have n7 : ¬ (("all_gone" : Str) = "tops") := by decide +kernel
  simp [stF, putF, n1, n2, n3, n4, n5, n6, n7]
theorem sp2 {u : V} : putF "rules" u (stF t r h l m n w g) = stF t u h l m n w g := by
  have n0 : ¬ (("tops" : Str) = "rules") := by decide +kernel
  have n2 : ¬ (("hands" : Str) = "rules") := by decide +kernel
  have n3 : ¬ (("letters" : Str) = "rules") := by decide +kernel
  have n4 : ¬ (("next_mark" : Str) = "rules") := by decide +kernel
  have n5 : ¬ (("next_rule" : Str) = "rules") := by decide +kernel
  have n6 : ¬ (("last_wish" : Str) = "rules") := by decide +kernel
  have n7 : ¬ (("all_gone" : Str) = "rules") := by decide +kernel
  simp [stF, putF, n0, n2, n3, n4, n5, n6, n7]
theorem sp3 {u : V} : putF "hands" u (stF t r h l m n w g) = stF t r u l m n w g := by
  have n0 : ¬ (("tops" : Str) = "hands") := by decide +kernel
  have n1 : ¬ (("rules" : Str) = "hands") := by decide +kernel
  have n3 : ¬ (("letters" : Str) = "hands") := by decide +kernel
  have n4 : ¬ (("next_mark" : Str) = "hands") := by decide +kernel
  have n5 : ¬ (("next_rule" : Str) = "hands") := by decide +kernel
  have n6 : ¬ (("last_wish" : Str) = "hands") := by decide +kernel
  have n7 : ¬ (("all_gone" : Str) = "hands") := by decide +kernel
  simp [stF, putF, n0, n1, n3, n4, n5, n6, n7]
theorem sp4 {u : V} : putF "letters" u (stF t r h l m n w g) = stF t r h u m n w g := by
  have n0 : ¬ (("tops" : Str) = "letters") := by decide +kernel
  have n1 : ¬ (("rules" : Str) = "letters") := by decide +kernel
  have n2 : ¬ (("hands" : Str) = "letters") := by decide +kernel
  have n4 : ¬ (("next_mark" : Str) = "letters") := by decide +kernel
  have n5 : ¬ (("next_rule" : Str) = "letters") := by decide +kernel
  have n6 : ¬ (("last_wish" : Str) = "letters") := by decide +kernel
  have n7 : ¬ (("all_gone" : Str) = "letters") := by decide +kernel
  simp [stF, putF, n0, n1, n2, n4, n5, n6, n7]
theorem sp5 {u : V} : putF "next_mark" u (stF t r h l m n w g) = stF t r h l u n w g := by
  have n0 : ¬ (("tops" : Str) = "next_mark") := by decide +kernel
  have n1 : ¬ (("rules" : Str) = "next_mark") := by decide +kernel
  have n2 : ¬ (("hands" : Str) = "next_mark") := by decide +kernel
  have n3 : ¬ (("letters" : Str) = "next_mark") := by decide +kernel
  have n5 : ¬ (("next_rule" : Str) = "next_mark") := by decide +kernel
  have n6 : ¬ (("last_wish" : Str) = "next_mark") := by decide +kernel
  have n7 : ¬ (("all_gone" : Str) = "next_mark") := by decide +kernel
  simp [stF, putF, n0, n1, n2, n3, n5, n6, n7]
theorem sp6 {u : V} : putF "next_rule" u (stF t r h l m n w g) = stF t r h l m u w g := by
  have n0 : ¬ (("tops" : Str) = "next_rule") := by decide +kernel
  have n1 : ¬ (("rules" : Str) = "next_rule") := by decide +kernel
  have n2 : ¬ (("hands" : Str) = "next_rule") := by decide +kernel
  have n3 : ¬ (("letters" : Str) = "next_rule") := by decide +kernel
  have n4 : ¬ (("next_mark" : Str) = "next_rule") := by decide +kernel
  have n6 : ¬ (("last_wish" : Str) = "next_rule") := by decide +kernel
  have n7 : ¬ (("all_gone" : Str) = "next_rule") := by decide +kernel
  simp [stF, putF, n0, n1, n2, n3, n4, n6, n7]
theorem sp7 {u : V} : putF "last_wish" u (stF t r h l m n w g) = stF t r h l m n u g := by
  have n0 : ¬ (("tops" : Str) = "last_wish") := by decide +kernel
  have n1 : ¬ (("rules" : Str) = "last_wish") := by decide +kernel
  have n2 : ¬ (("hands" : Str) = "last_wish") := by decide +kernel
  have n3 : ¬ (("letters" : Str) = "last_wish") := by decide +kernel
  have n4 : ¬ (("next_mark" : Str) = "last_wish") := by decide +kernel
  have n5 : ¬ (("next_rule" : Str) = "last_wish") := by decide +kernel
  have n7 : ¬ (("all_gone" : Str) = "last_wish") := by decide +kernel
  simp [stF, putF, n0, n1, n2, n3, n4, n5, n7]
theorem sp8 {u : V} : putF "all_gone" u (stF t r h l m n w g) = stF t r h l m n w u := by
  have n0 : ¬ (("tops" : Str) = "all_gone") := by decide +kernel
  have n1 : ¬ (("rules" : Str) = "all_gone") := by decide +kernel
  have n2 : ¬ (("hands" : Str) = "all_gone") := by decide +kernel
  have n3 : ¬ (("letters" : Str) = "all_gone") := by decide +kernel
  have n4 : ¬ (("next_mark" : Str) = "all_gone") := by decide +kernel
  have n5 : ¬ (("next_rule" : Str) = "all_gone") := by decide +kernel
  have n6 : ¬ (("last_wish" : Str) = "all_gone") := by decide +kernel
  simp [stF, putF, n0, n1, n2, n3, n4, n5, n6]
theorem si1 : putF "tops" t ([] : List (Str × V)) = ([("tops", t)] : List (Str × V)) := by
  simp [putF]
theorem si2 : putF "rules" r ([("tops", t)] : List (Str × V)) = ([("tops", t), ("rules", r)] : List (Str × V)) := by
  have n0 : ¬ (("tops" : Str) = "rules") := by decide +kernel
  simp [putF, n0]
theorem si3 : putF "hands" h ([("tops", t), ("rules", r)] : List (Str × V)) = ([("tops", t), ("rules", r), ("hands", h)] : List (Str × V)) := by
  have n0 : ¬ (("tops" : Str) = "hands") := by decide +kernel
  have n1 : ¬ (("rules" : Str) = "hands") := by decide +kernel
  simp [putF, n0, n1]
theorem si4 : putF "letters" l ([("tops", t), ("rules", r), ("hands", h)] : List (Str × V)) = ([("tops", t), ("rules", r), ("hands", h), ("letters", l)] : List (Str × V)) := by
  have n0 : ¬ (("tops" : Str) = "letters") := by decide +kernel
  have n1 : ¬ (("rules" : Str) = "letters") := by decide +kernel
  have n2 : ¬ (("hands" : Str) = "letters") := by decide +kernel
  simp [putF, n0, n1, n2]
theorem si5 : putF "next_mark" m ([("tops", t), ("rules", r), ("hands", h), ("letters", l)] : List (Str × V)) = ([("tops", t), ("rules", r), ("hands", h), ("letters", l), ("next_mark", m)] : List (Str × V)) := by
  have n0 : ¬ (("tops" : Str) = "next_mark") := by decide +kernel
  have n1 : ¬ (("rules" : Str) = "next_mark") := by decide +kernel
  have n2 : ¬ (("hands" : Str) = "next_mark") := by decide +kernel
  have n3 : ¬ (("letters" : Str) = "next_mark") := by decide +kernel
  simp [putF, n0, n1, n2, n3]
theorem si6 : putF "next_rule" n ([("tops", t), ("rules", r), ("hands", h), ("letters", l), ("next_mark", m)] : List (Str × V)) = ([("tops", t), ("rules", r), ("hands", h), ("letters", l), ("next_mark", m), ("next_rule", n)] : List (Str × V)) := by
  have n0 : ¬ (("tops" : Str) = "next_rule") := by decide +kernel
  have n1 : ¬ (("rules" : Str) = "next_rule") := by decide +kernel
  have n2 : ¬ (("hands" : Str) = "next_rule") := by decide +kernel
  have n3 : ¬ (("letters" : Str) = "next_rule") := by decide +kernel
  have n4 : ¬ (("next_mark" : Str) = "next_rule") := by decide +kernel
  simp [putF, n0, n1, n2, n3, n4]
theorem si7 : putF "last_wish" w ([("tops", t), ("rules", r), ("hands", h), ("letters", l), ("next_mark", m), ("next_rule", n)] : List (Str × V)) = ([("tops", t), ("rules", r), ("hands", h), ("letters", l), ("next_mark", m), ("next_rule", n), ("last_wish", w)] : List (Str × V)) := by
  have n0 : ¬ (("tops" : Str) = "last_wish") := by decide +kernel
  have n1 : ¬ (("rules" : Str) = "last_wish") := by decide +kernel
  have n2 : ¬ (("hands" : Str) = "last_wish") := by decide +kernel
  have n3 : ¬ (("letters" : Str) = "last_wish") := by decide +kernel
  have n4 : ¬ (("next_mark" : Str) = "last_wish") := by decide +kernel
  have n5 : ¬ (("next_rule" : Str) = "last_wish") := by decide +kernel
  simp [putF, n0, n1, n2, n3, n4, n5]
theorem si8 : putF "all_gone" g ([("tops", t), ("rules", r), ("hands", h), ("letters", l), ("next_mark", m), ("next_rule", n), ("last_wish", w)] : List (Str × V)) = ([("tops", t), ("rules", r), ("hands", h), ("letters", l), ("next_mark", m), ("next_rule", n), ("last_wish", w), ("all_gone", g)] : List (Str × V)) := by
  have n0 : ¬ (("tops" : Str) = "all_gone") := by decide +kernel
  have n1 : ¬ (("rules" : Str) = "all_gone") := by decide +kernel
  have n2 : ¬ (("hands" : Str) = "all_gone") := by decide +kernel
  have n3 : ¬ (("letters" : Str) = "all_gone") := by decide +kernel
  have n4 : ¬ (("next_mark" : Str) = "all_gone") := by decide +kernel
  have n5 : ¬ (("next_rule" : Str) = "all_gone") := by decide +kernel
  have n6 : ¬ (("last_wish" : Str) = "all_gone") := by decide +kernel
  simp [putF, n0, n1, n2, n3, n4, n5, n6]
end
def spSInit (CS : Addr) : Sp := fun vs H Q _ => ∃ (s ds tp : Addr), vs = [.ref s, .ref tp] ∧ H s = some (.ins CS ds []) ∧
  ∀ H' R Hs Ls, (∀ b o, b ≠ s → H b = some o → H' b = some o) → H R = none → H Hs = none → H Ls = none → [s, R, Hs, Ls].Nodup → H' s = some (.ins CS ds (stF (.ref tp) (.ref R) (.ref Hs) (.ref Ls) (.int 0) (.int 0) (.int 0) (.int 0))) → H' R = some (.dK []) → H' Hs = some (.lst []) → H' Ls = some (.lst []) → Q .non H'
section
variable {P : Program} {w : World} {K : PySem.W.Frag} {mg : Str → Option Value} {base : Heap}
abbrev a_State___init__ : Stmt := inClass (topS 38) 0
abbrev n_State___init__ : List Str := ["self", "tops"]
theorem sc_State___init__ : FnScope n_State___init__ ["self", "tops"] (defScope a_State___init__) := ⟨rfl, rfl, rfl, by decide +kernel, rfl, by decide +kernel, by decide +kernel⟩
set_option maxHeartbeats 8000000 in
theorem ok_State___init__ {f  : Addr} {fd  : FuncData} {k : Nat} {CS : Addr} (F : Fun K "__init__" "State.__init__" a_State___init__ f fd)  (X : StateTxt K CS)  : FnOk P w K mg base CX0 (k + 1) f fd ["self", "tops"] (spSInit CS) := by
  refine F.ok sc_State___init__ (fun vs H Q E h => ?_) (fun cdv A outer s H vs Q E hr h => ?_)
  · obtain ⟨s, ds, tp, rfl, _⟩ := h
    rfl
  · obtain ⟨s, ds, tp, rfl, es, q⟩ := h
    refine ⟨_, (pss_cons (ps_fld (pv 0) (pv 1) rfl)
      (pss_cons (ps_fld (pv 0) pe_dnewK rfl)
      (pss_cons (ps_fld (pv 0) (pe_lst pa_nil) rfl)
      (pss_cons (ps_fld (pv 0) (pe_lst pa_nil) rfl)
      (pss_cons (ps_fld (pv 0) pe_int rfl)
      (pss_cons (ps_fld (pv 0) pe_int rfl)
      (pss_cons (ps_fld (pv 0) pe_int rfl)
      (pss_one (ps_fld (pv 0) pe_int rfl))))))))), ?_⟩
    refine ⟨_, rfl, .ref s, rfl, s, CS, ds, [], rfl, es, X.cl, X.n1, (show 0 < 1000 by decide), ?_⟩
    rw [si1]
    have e1 : (upd H s (.ins CS ds [("tops", .ref tp)])) s = some (.ins CS ds [("tops", .ref tp)]) := upd_same
    have b1 : ∀ b o, b ≠ s → H b = some o → (upd H s (.ins CS ds [("tops", .ref tp)])) b = some o := fun b o n e => (upd_ne n).trans e
    have f1 : ∀ b, (upd H s (.ins CS ds [("tops", .ref tp)])) b = none → H b = none := fun b e => by
      by_cases z : b = s
      · rw [z, upd_same] at e; cases e
      · rwa [upd_ne z] at e
    generalize upd H s (.ins CS ds [("tops", .ref tp)]) = H1 at e1 b1 f1 ⊢
    refine fun R nR => ⟨.ref s, rfl, s, CS, ds, _, rfl, (same_new nR) _ _ e1, X.cl, X.n2, (show 1 < 1000 by decide), ?_⟩
    rw [si2]
    have nRs : R ≠ s := fun z => by rw [z, e1] at nR; cases nR
    have s2 := same_new (o := HO.dK []) nR
    have r2 : (upd H1 R (.dK [])) R = some (.dK []) := upd_same
    have e2 := s2 _ _ e1
    have f2 : ∀ b, (upd H1 R (.dK [])) b = none → H1 b = none := fun b e => s2.free e
    have nRH := f1 _ nR
    generalize upd H1 R (.dK []) = H2 at s2 r2 e2 f2 ⊢
    have e3 : (upd H2 s (.ins CS ds [("tops", .ref tp), ("rules", .ref R)])) s = some (.ins CS ds [("tops", .ref tp), ("rules", .ref R)]) := upd_same
    have r3 : (upd H2 s (.ins CS ds [("tops", .ref tp), ("rules", .ref R)])) R = some (.dK []) := (upd_ne nRs).trans r2
    have b3 : ∀ b o, b ≠ s → H b = some o → (upd H2 s (.ins CS ds [("tops", .ref tp), ("rules", .ref R)])) b = some o := fun b o n e => (upd_ne n).trans (s2 _ _ (b1 _ _ n e))
    have f3 : ∀ b, (upd H2 s (.ins CS ds [("tops", .ref tp), ("rules", .ref R)])) b = none → H b = none := fun b e => by
      by_cases z : b = s
      · rw [z, upd_same] at e; cases e
      · rw [upd_ne z] at e
        exact f1 _ (f2 _ e)
    generalize upd H2 s (.ins CS ds [("tops", .ref tp), ("rules", .ref R)]) = H3 at e3 r3 b3 f3 ⊢
    clear e1 b1 f1 nR s2 r2 e2 f2
    refine ⟨(show 0 ≤ sizeLine by decide), fun Hs nHs => ⟨.ref s, rfl, s, CS, ds, _, rfl, (same_new nHs) _ _ e3, X.cl, X.n3, (show 2 < 1000 by decide), ?_⟩⟩
    rw [si3]
    have nHss : Hs ≠ s := fun z => by rw [z, e3] at nHs; cases nHs
    have nHsR : Hs ≠ R := fun z => by rw [z, r3] at nHs; cases nHs
    have s4 := same_new (o := HO.lst []) nHs
    have h4 : (upd H3 Hs (.lst [])) Hs = some (.lst []) := upd_same
    have nHsH := f3 _ nHs
    have e4 := s4 _ _ e3
    have r4 := s4 _ _ r3
    have f4 : ∀ b, (upd H3 Hs (.lst [])) b = none → H3 b = none := fun b e => s4.free e
    generalize upd H3 Hs (.lst []) = H4 at s4 h4 e4 r4 f4 ⊢
    have e5 : (upd H4 s (.ins CS ds [("tops", .ref tp), ("rules", .ref R), ("hands", .ref Hs)])) s = some (.ins CS ds [("tops", .ref tp), ("rules", .ref R), ("hands", .ref Hs)]) := upd_same
    have r5 : (upd H4 s (.ins CS ds [("tops", .ref tp), ("rules", .ref R), ("hands", .ref Hs)])) R = some (.dK []) := (upd_ne nRs).trans r4
    have h5 : (upd H4 s (.ins CS ds [("tops", .ref tp), ("rules", .ref R), ("hands", .ref Hs)])) Hs = some (.lst []) := (upd_ne nHss).trans h4
    have b5 : ∀ b o, b ≠ s → H b = some o → (upd H4 s (.ins CS ds [("tops", .ref tp), ("rules", .ref R), ("hands", .ref Hs)])) b = some o := fun b o n e => (upd_ne n).trans (s4 _ _ (b3 _ _ n e))
    have f5 : ∀ b, (upd H4 s (.ins CS ds [("tops", .ref tp), ("rules", .ref R), ("hands", .ref Hs)])) b = none → H b = none := fun b e => by
      by_cases z : b = s
      · rw [z, upd_same] at e; cases e
      · rw [upd_ne z] at e
        exact f3 _ (f4 _ e)
    generalize upd H4 s (.ins CS ds [("tops", .ref tp), ("rules", .ref R), ("hands", .ref Hs)]) = H5 at e5 r5 h5 b5 f5 ⊢
    clear e3 r3 b3 f3 nHs s4 h4 e4 r4 f4
    refine ⟨(show 0 ≤ sizeLine by decide), fun Ls nLs => ⟨.ref s, rfl, s, CS, ds, _, rfl, (same_new nLs) _ _ e5, X.cl, X.n4, (show 3 < 1000 by decide), ?_⟩⟩
    rw [si4]
    have nLss : Ls ≠ s := fun z => by rw [z, e5] at nLs; cases nLs
    have nLsR : Ls ≠ R := fun z => by rw [z, r5] at nLs; cases nLs
    have nLsH : Ls ≠ Hs := fun z => by rw [z, h5] at nLs; cases nLs
    have nLH := f5 _ nLs
    have s6 := same_new (o := HO.lst []) nLs
    have l6 : (upd H5 Ls (.lst [])) Ls = some (.lst []) := upd_same
    have r6 := s6 _ _ r5
    have h6 := s6 _ _ h5
    generalize upd H5 Ls (.lst []) = H6 at s6 l6 r6 h6 ⊢
    refine ⟨.ref s, rfl, s, CS, ds, _, rfl, upd_same, X.cl, X.n5, (show 4 < 1000 by decide), ?_⟩
    rw [si5, upd_upd]
    refine ⟨.ref s, rfl, s, CS, ds, _, rfl, upd_same, X.cl, X.n6, (show 5 < 1000 by decide), ?_⟩
    rw [si6, upd_upd]
    refine ⟨.ref s, rfl, s, CS, ds, _, rfl, upd_same, X.cl, X.n7, (show 6 < 1000 by decide), ?_⟩
    rw [si7, upd_upd]
    refine ⟨.ref s, rfl, s, CS, ds, _, rfl, upd_same, X.cl, X.n8, (show 7 < 1000 by decide), ?_⟩
    rw [si8, upd_upd]
    exact q _ R Hs Ls (fun b o n e => (upd_ne n).trans (s6 _ _ (b5 _ _ n e))) nRH nHsH nLH (by simp [nRs.symm, nHss.symm, nLss.symm, nHsR.symm, nLsR.symm, nLsH.symm]) upd_same ((upd_ne nRs).trans r6) ((upd_ne nHss).trans h6) ((upd_ne nLss).trans l6)
end
end K66

set_option Elab.async false
set_option linter.all false
set_option maxRecDepth 100000
namespace K66
open PySem PySem.Spec PyProof.Rows L2 NB

/-! ### what is asked of a state -/
def inB (xs : List Int) (s : Sd) : Bool := match xs[s.1]? with
  | some x => if s.2.1 then decide (s.2.2 ≤ x) else decide (x ≤ s.2.2)
  | none => false
theorem w_from : decide (V.str (word true) = V.str "from") = true := by decide +kernel
theorem w_to : decide (V.str (word false) = V.str "from") = false := by decide +kernel
def plsOf (σ : Sta) : List Int := σ.hands.map (·.place)
def spIn : Sp := fun vs H Q _ => ∃ (p t : Addr) (sd : Sd) (xs : List Int), vs = [.ref p, .ref t] ∧ SideAt H p sd ∧ H t = some (.tup (xs.map V.int)) ∧ sd.1 < xs.length ∧ Q (.bl (inB xs sd)) H
def spStOf (CS C : Addr) : Sp := fun vs H Q _ => ∃ (s : Addr) (own : List Addr) (σ : Sta), vs = [.ref s] ∧ StX CS C H s own σ ∧ σ.hands.length ≤ 12 ∧ ∀ H' g, Same H H' → H' g = some (.tup ((plsOf σ).map V.int)) → Q (.ref g) H'
def frC (q : Rl) (xs : List Int) : Int := if (shrd q && !inB xs q.2) = true then 1 else 0
def spFrC : Sp := fun vs H Q _ => ∃ (r t : Addr) (q : Rl) (xs : List Int), vs = [.ref r, .ref t] ∧ RuleAt H r q ∧ H t = some (.tup (xs.map V.int)) ∧ q.2.1 < xs.length ∧ Q (.int (frC q xs)) H
section
variable {P : Program} {w : World} {K : PySem.W.Frag} {mg : Str → Option Value} {base : Heap}
abbrev a_is_in : Stmt := topS 22
abbrev n_is_in : List Str := ["side", "standing", "thing", "word", "place"]
theorem sc_is_in : FnScope n_is_in ["side", "standing"] (defScope a_is_in) := ⟨rfl, rfl, rfl, by decide +kernel, rfl, by decide +kernel, by decide +kernel⟩
set_option maxHeartbeats 8000000 in
theorem ok_is_in {f  : Addr} {fd  : FuncData} {k : Nat}  (F : Fun K "is_in" "is_in" a_is_in f fd)    : FnOk P w K mg base CX0 (k + 1) f fd ["side", "standing"] spIn := by
  refine F.ok sc_is_in (fun vs H Q E h => ?_) (fun cdv A outer s H vs Q E hr h => ?_)
  · obtain ⟨p, t, sd, xs, rfl, _⟩ := h
    rfl
  · obtain ⟨p, t, sd, xs, rfl, ep, et, ln, q⟩ := h
    refine ⟨_, (pss_cons (ps_asg (pv 0) (pg_tup rfl (pgs_cons (pg_name (i := 2) sc_is_in.nd rfl (.inl rfl)) (pgs_cons (pg_name (i := 3) sc_is_in.nd rfl (.inl rfl)) (pgs_cons (pg_name (i := 4) sc_is_in.nd rfl (.inl rfl)) pgs_nil)))))
      (pss_cons (ps_if (pt_cmpR op_eq (pv 3) pe_str (nomark _)) (pss_one (ps_ret (pe_cmpR op_ge (pe_ix ix_tup (pv 1) (pv 2) (fun _ _ => rfl)) (pv 4) (nomark _)))) pss_nil)
      (pss_one (ps_ret (pe_cmpR op_le (pe_ix ix_tup (pv 1) (pv 2) (fun _ _ => rfl)) (pv 4) (nomark _)))))), ?_⟩
    obtain ⟨n, b, pl⟩ := sd
    have ep' : H p = some (.tup [.int (n : Int), .str (word b), .int pl]) := ep
    have ln' : n < xs.length := ln
    have eg : atI (xs.map V.int) (n : Int) = some (.int xs[n]) := atI_nat (by rw [List.getElem?_map, List.getElem?_eq_getElem ln']; rfl)
    have eb : inB xs (n, b, pl) = if b then decide (pl ≤ xs[n]) else decide (xs[n] ≤ pl) := by
      unfold inB
      simp only [List.getElem?_eq_getElem ln']
    rw [eb] at q
    refine ⟨.ref p, rfl, p, _, rfl, .inl (.inl ep'), rfl, _, _, rfl, _, _, rfl, _, _, rfl, rfl, ?_⟩
    cases b with
    | true =>
      refine ⟨_, rfl, rfl, true, congrArg V.bl w_from, iteT ?_⟩
      exact ⟨.ref t, rfl, .int n, rfl, t, _, n, _, rfl, rfl, .inl (.inl et), eg, .int pl, rfl, _, pl, rfl, rfl, q⟩
    | false =>
      refine ⟨_, rfl, rfl, false, congrArg V.bl w_to, iteF ?_⟩
      exact ⟨.ref t, rfl, .int n, rfl, t, _, n, _, rfl, rfl, .inl (.inl et), eg, .int pl, rfl, _, pl, rfl, rfl, q⟩
abbrev a_first_count : Stmt := topS 46
abbrev n_first_count : List Str := ["rule", "standing"]
theorem sc_first_count : FnScope n_first_count ["rule", "standing"] (defScope a_first_count) := ⟨rfl, rfl, rfl, by decide +kernel, rfl, by decide +kernel, by decide +kernel⟩
set_option maxHeartbeats 8000000 in
theorem ok_first_count {f fIn fIs : Addr} {fd fdIn fdIs : FuncData} {k : Nat}  (F : Fun K "first_count" "first_count" a_first_count f fd) (In : Kn P w K mg base 1 "is_in" ["side", "standing"] spIn fIn fdIn) (Is : Kn P w K mg base 1 "is_shared" ["rule"] spShrd fIs fdIs)   : FnOk P w K mg base CX0 (k + 2) f fd ["rule", "standing"] spFrC := by
  refine F.ok sc_first_count (fun vs H Q E h => ?_) (fun cdv A outer s H vs Q E hr h => ?_)
  · obtain ⟨r, t, q0, xs, rfl, _⟩ := h
    rfl
  · obtain ⟨r, t, q0, xs, rfl, er, et, ln, q⟩ := h
    refine ⟨_, (pss_one (ps_ret (pe_ifExp (PW.pt (pw_and (pt_val (pe_kn Is hr (by omega) (pa_cons (pv 0) pa_nil))) (pw_and1 (pt_not (pt_val (pe_kn In hr (by omega) (pa_cons (pe_ix ix_tup (pv 0) pe_int (fun _ _ => rfl)) (pa_cons (pv 1) pa_nil)))))))) pe_int pe_int))), ?_⟩
    obtain ⟨p1, p2, e, e1, e2⟩ := id er
    refine ⟨.ref r, rfl, r, q0, rfl, er, _, rfl, ?_⟩
    unfold frC at q
    cases sh : shrd q0 with
    | false =>
      rw [sh] at q
      exact iteF (iteF q)
    | true =>
      rw [sh] at q
      refine iteT ⟨.ref r, rfl, r, _, 1, .ref p2, rfl, rfl, .inl (.inl e), atI_nat (j := 1) rfl, .ref t, rfl, p2, t, q0.2, xs, rfl, e2, et, ln, _, rfl, ?_⟩
      cases ib : inB xs q0.2 with
      | true =>
        rw [ib] at q
        exact iteF q
      | false =>
        rw [ib] at q
        exact iteT q
abbrev a_standing_of : Stmt := topS 43
abbrev n_standing_of : List Str := ["state", "hand"]
theorem sc_standing_of : FnScope n_standing_of ["state"] (defScope a_standing_of) := ⟨rfl, rfl, rfl, by decide +kernel, rfl, by decide +kernel, by decide +kernel⟩
set_option maxHeartbeats 8000000 in
theorem ok_standing_of {f  : Addr} {fd  : FuncData} {k : Nat} {CS C : Addr} (F : Fun K "standing_of" "standing_of" a_standing_of f fd)  (XS : StateTxt K CS) (X : HandTxt K C) (m_tuple : mg "tuple" = none) : FnOk P w K mg base CX0 (k + 1) f fd ["state"] (spStOf CS C) := by
  refine F.ok sc_standing_of (fun vs H Q E h => ?_) (fun cdv A outer s H vs Q E hr h => ?_)
  · obtain ⟨s, own, σ, rfl, _⟩ := h
    rfl
  · obtain ⟨s, own, σ, rfl, hs, l12, q⟩ := h
    refine ⟨_, (pss_one (ps_ret (pe_callTy call_tuple_of (by rfl) m_tuple (by decide +kernel) (pa_cons (
        pe_lc (own := [("hand", 1)]) (g := (gName 1)) (tt := tYes) (te := (tFld K (tVar 1) "place")) rfl sc_standing_of.nd (pi_list (pe_fld (pv 0) rfl)) (blkOk_by (N := n_standing_of) (sc := defScope a_standing_of) (by decide +kernel))
          (fun _ _ _ _ _ => (pg_name (i := 1) sc_standing_of.nd rfl (.inl rfl) (hf := .inr rfl))) (fun _ _ _ _ _ => pts_nil) (fun _ _ _ _ _ => (pe_fld (pv 1) rfl))) pa_nil)))), ?_⟩
    obtain ⟨ds, tp, R, Hs, Ls, zs, rs, ls, _, st⟩ := hs
    have lz := st.fhs.len
    refine ⟨.ref s, rfl, s, CS, ds, _, _, rfl, st.fs, XS.cl, XS.n3, sk3, Hs, rfl, ⟨_, .inl (.inl st.fh)⟩, fun D nD => lc_it (walk_list (xs := zs.map fun z => V.ref z.1)) (fun j H' => Same H H' ∧ H' D = some (.lst (((plsOf σ).take j).map V.int))) ⟨same_new nD, upd_same⟩ (fun j H' _ y => .inl (.inl (y.1 _ _ st.fh))) (fun j v H1' H1 hj y z => ?_) (fun H1 y => ?_)⟩
    · obtain ⟨s1, eD⟩ := y
      obtain ⟨rfl, gv⟩ := z
      obtain ⟨z, ez, rfl⟩ := mapGet gv
      obtain ⟨h, eh, a, _⟩ := st.fhs.get ez
      obtain ⟨dx, v', hs', e0, _⟩ := a
      have e0' : H z.1 = some (.ins C dx [("thing", .int (h.thing : Int)), ("place", .int h.place), ("wish", v'), ("held", .ref z.2.1), ("tally", .ref z.2.2)]) := e0
      refine ⟨rfl, .ref z.1, rfl, z.1, C, dx, _, _, rfl, s1 _ _ e0', X.cl, X.n2, lk2, _, eD, ?_, same_over s1 nD, ?_⟩
      · rw [List.length_map, List.length_take]
        unfold plsOf
        rw [List.length_map]
        exact small1000 (by omega)
      · have ep : (plsOf σ)[j]? = some h.place := by unfold plsOf; rw [List.getElem?_map, eh]; rfl
        rw [upd_same, List.take_add_one, ep, List.map_append]
        rfl
    · obtain ⟨s1, eD⟩ := y
      have tk : (plsOf σ).take (zs.map fun z => V.ref z.1).length = plsOf σ := List.take_of_length_le (by unfold plsOf; rw [List.length_map, List.length_map, lz]; exact Nat.le_refl _)
      rw [tk] at eD
      refine ⟨D, _, rfl, .inl ⟨.inl (.inl eD), fun g ng => ?_⟩⟩
      exact q _ g (s1.trans (same_new ng)) upd_same
end
end K66

set_option Elab.async false
set_option linter.all false
set_option maxRecDepth 100000
namespace K66
open PySem PySem.Spec PyProof.Rows L2 NB

/-! ### the rules of a state -/
def NbAt (H : Hp) (as : List Addr) (rules : List (Int × Rl)) : Prop := as.length = rules.length ∧ ∀ (i : Nat) a r, as[i]? = some a → rules[i]? = some r → ∃ p, H a = some (.tup [.int r.1, .ref p]) ∧ RuleAt H p r.2
theorem NbAt.tk {H H' : Hp} {as : List Addr} {rules : List (Int × Rl)} (a : NbAt H as rules) (k : TupK H H') : NbAt H' as rules := ⟨a.1, fun i z l h1 h2 => by
  obtain ⟨p, e1, e2⟩ := a.2 i z l h1 h2
  exact ⟨p, k _ _ e1, e2.tk k⟩⟩
theorem NbAt.snoc {H : Hp} {as : List Addr} {rules : List (Int × Rl)} {a p : Addr} {r : Int × Rl} (h : NbAt H as rules) (e1 : H a = some (.tup [.int r.1, .ref p])) (e2 : RuleAt H p r.2) : NbAt H (as ++ [a]) (rules ++ [r]) := by
  have l := h.1
  refine ⟨by rw [List.length_append, List.length_append, l]; rfl, fun i z r' h1 h2 => ?_⟩
  rcases Nat.lt_or_ge i as.length with c | c
  · rw [List.getElem?_append_left c] at h1
    rw [List.getElem?_append_left (by omega)] at h2
    exact h.2 i z r' h1 h2
  · have hl := (List.getElem?_eq_some_iff.mp h1).1
    rw [List.length_append, List.length_singleton] at hl
    have i0 : i = as.length := by omega
    rw [i0, List.getElem?_append_right (Nat.le_refl _), Nat.sub_self] at h1
    rw [i0, l, List.getElem?_append_right (Nat.le_refl _), Nat.sub_self] at h2
    cases h1
    cases h2
    exact ⟨p, e1, e2⟩
theorem valRs {H : Hp} {n : Int} {q : Rl} : ∀ {rs : List (Int × Addr)} {rules : List (Int × Rl)}, RsAt H rs rules → (rules.map (·.1)).Nodup → (n, q) ∈ rules → ∃ a, valV (kvH rs) (Sum.inl n) = some (V.ref a) ∧ RuleAt H a q
  | [], [], _, _, h => absurd h List.not_mem_nil
  | z :: rs, r :: rules, a, nd, h => by
    rw [List.map_cons, List.nodup_cons] at nd
    have k1 : z.1 = r.1 := (List.cons.inj a.1).1
    have a' : RsAt H rs rules := ⟨(List.cons.inj a.1).2, fun i z r h1 h2 => a.2 (i + 1) z r h1 h2⟩
    have e : valV (kvH (z :: rs)) (Sum.inl n) = if r.1 = n then some (V.ref z.2) else valV (kvH rs) (Sum.inl n) := by
      unfold kvH valV
      rw [List.map_cons, List.find?_cons]
      by_cases h : r.1 = n
      · simp [h, k1]
      · have : ¬ ((Sum.inl z.1 : Key) = Sum.inl n) := fun w => h (k1 ▸ Sum.inl.inj w)
        simp only [this, h, decide_false, if_false]
    rw [e]
    rcases List.mem_cons.mp h with h | h
    · rw [← h, if_pos rfl]
      refine ⟨z.2, rfl, ?_⟩
      have := a.2 0 z r rfl rfl
      rw [← h] at this
      exact this
    · rw [if_neg (fun w => nd.1 (by rw [w]; exact List.mem_map.mpr ⟨_, h, rfl⟩))]
      exact valRs a' nd.2 h
  | [], _ :: _, ⟨a, _⟩, _, _ => by cases a
  | _ :: _, [], ⟨a, _⟩, _, _ => by cases a
/-- the rules stand by rising numbers -/
def Rsg (σ : Sta) : Prop := (σ.rules.map (·.1)).Pairwise (· < ·) ∧ σ.rules.length ≤ 60
theorem Rsg.nd {σ : Sta} (r : Rsg σ) : (σ.rules.map (·.1)).Nodup := r.1.imp fun h => Int.ne_of_lt h
def spNumb (CS C : Addr) : Sp := fun vs H Q _ => ∃ (s : Addr) (own : List Addr) (σ : Sta), vs = [.ref s] ∧ StX CS C H s own σ ∧ Rsg σ ∧ ∀ H' g as, Same H H' → H' g = some (.tup (as.map V.ref)) → NbAt H' as σ.rules → Q (.ref g) H'
section
variable {P : Program} {w : World} {K : PySem.W.Frag} {mg : Str → Option Value} {base : Heap}
abbrev a_numbered_rules : Stmt := topS 41
abbrev n_numbered_rules : List Str := ["state", "number"]
theorem sc_numbered_rules : FnScope n_numbered_rules ["state"] (defScope a_numbered_rules) := ⟨rfl, rfl, rfl, by decide +kernel, rfl, by decide +kernel, by decide +kernel⟩
set_option maxHeartbeats 8000000 in
theorem ok_numbered_rules {f  : Addr} {fd  : FuncData} {k : Nat} {CS C : Addr} (F : Fun K "numbered_rules" "numbered_rules" a_numbered_rules f fd)  (XS : StateTxt K CS) (m_sorted : mg "sorted" = none) (m_tuple : mg "tuple" = none) : FnOk P w K mg base CX0 (k + 1) f fd ["state"] (spNumb CS C) := by
  refine F.ok sc_numbered_rules (fun vs H Q E h => ?_) (fun cdv A outer s H vs Q E hr h => ?_)
  · obtain ⟨s, own, σ, rfl, _⟩ := h
    rfl
  · obtain ⟨s, own, σ, rfl, hs, rg, q⟩ := h
    refine ⟨_, (pss_one (ps_ret (pe_callTy call_tuple_of (by rfl) m_tuple (by decide +kernel) (pa_cons (
        pe_lc (own := [("number", 1)]) (g := (gName 1)) (tt := tYes) (te := (tTup (tCons (tVar 1) (tCons (tDGet (tFld K (tVar 0) "rules") (tVar 1)) tNil)))) rfl sc_numbered_rules.nd (pi_list (pe_callB (call_sortedDI rfl) (by rfl) m_sorted (by decide +kernel) (pa_cons (pe_fld (pv 0) rfl) pa_nil))) (blkOk_by (N := n_numbered_rules) (sc := defScope a_numbered_rules) (by decide +kernel))
          (fun _ _ _ _ _ => (pg_name (i := 1) sc_numbered_rules.nd rfl (.inl rfl) (hf := .inr rfl))) (fun _ _ _ _ _ => pts_nil) (fun _ _ _ _ _ => (pe_tup (pa_cons (pv 1) (pa_cons (pe_dget (hu_of hr) (pe_fld (pv 0) rfl) (pv 1) (fun _ _ => rfl)) pa_nil))))) pa_nil)))), ?_⟩
    obtain ⟨ds, tp, R, Hs, Ls, zs, rs, ls, _, st⟩ := hs
    have kys : (kvH rs).map (·.1) = (σ.rules.map (·.1)).map Sum.inl := by
      rw [← st.fru.1]
      unfold kvH
      rw [List.map_map, List.map_map]
      rfl
    have l60 := rg.2
    refine ⟨.ref s, rfl, s, CS, ds, _, _, rfl, st.fs, XS.cl, XS.n2, sk2, R, kvH rs, σ.rules.map (·.1), rfl, .inl st.fr, kys, by rw [List.length_map]; omega, fun ys S pm pw nS => ?_⟩
    have ey : ys = σ.rules.map (·.1) := sorted_uniq pm pw (rg.1.imp fun h => Int.le_of_lt h)
    subst ey
    have s1 := same_new (o := HO.lst ((σ.rules.map (·.1)).map V.int)) nS
    have eS : (upd H S (HO.lst ((σ.rules.map (·.1)).map V.int))) S = some (.lst ((σ.rules.map (·.1)).map V.int)) := upd_same
    have st1 := st.same s1
    generalize upd H S (HO.lst ((σ.rules.map (·.1)).map V.int)) = H1 at s1 eS st1 ⊢
    refine ⟨S, rfl, ⟨_, .inl (.inl eS)⟩, fun D nD => lc_it (walk_list (xs := (σ.rules.map (·.1)).map V.int)) (fun j H' => Same H1 H' ∧ ∃ as : List Addr, H' D = some (.lst (as.map V.ref)) ∧ NbAt H' as (σ.rules.take j)) ⟨same_new nD, [], upd_same, rfl, fun i a r h => by rw [List.getElem?_nil] at h; cases h⟩ (fun j H' _ y => .inl (.inl (y.1 _ _ eS))) (fun j v H2' H2 hj y z => ?_) (fun H2 y => ?_)⟩
    · obtain ⟨s2, as, eD, nb⟩ := y
      obtain ⟨rfl, gv⟩ := z
      obtain ⟨n, en, rfl⟩ := mapGet gv
      rw [List.getElem?_map] at en
      obtain ⟨r, er, e0⟩ := Option.map_eq_some_iff.mp en
      subst e0
      have st2 := st1.same s2
      obtain ⟨ra, va, rA⟩ := valRs st2.fru rg.nd (List.mem_of_getElem? er)
      have jl : j < σ.rules.length := (List.getElem?_eq_some_iff.mp er).1
      refine ⟨rfl, .int r.1, rfl, .ref s, rfl, s, CS, ds, _, _, rfl, st2.fs, XS.cl, XS.n2, sk2, .int r.1, rfl, R, .ref ra, rfl, va ▸ DGr (k := .inl r.1) (.inl st2.fr), (show 2 ≤ sizeLine by decide), fun T3 nT3 => ?_⟩
      have s3 := same_new (o := HO.tup [V.int r.1, .ref ra]) nT3
      have e3 : (upd H2 T3 (HO.tup [V.int r.1, .ref ra])) T3 = some (.tup [.int r.1, .ref ra]) := upd_same
      have eD3 := s3 _ _ eD
      have nb3 := nb.tk (tk_same s3)
      have rA3 := rA.tk (tk_same s3)
      have s23 := s2.trans s3
      generalize upd H2 T3 (HO.tup [V.int r.1, .ref ra]) = H3 at s3 e3 eD3 nb3 rA3 s23 ⊢
      have kL : TupK H3 (upd H3 D (.lst (as.map V.ref ++ [.ref T3]))) := fun b xs e => (upd_ne (fun w => by rw [w, eD3] at e; cases e)).trans e
      refine ⟨_, eD3, ?_, same_over s23 nD, as ++ [T3], by rw [upd_same, List.map_append]; rfl, ?_⟩
      · rw [List.length_map, nb.1, List.length_take]
        exact small1000 (by omega)
      · rw [List.take_add_one, er]
        exact (nb3.tk kL).snoc (r := r) (kL _ _ e3) (rA3.tk kL)
    · obtain ⟨s2, as, eD, nb⟩ := y
      have tk : σ.rules.take ((σ.rules.map (·.1)).map V.int).length = σ.rules := List.take_of_length_le (by rw [List.length_map, List.length_map]; exact Nat.le_refl _)
      rw [tk] at nb
      refine ⟨D, _, rfl, .inl ⟨.inl (.inl eD), fun g ng => ?_⟩⟩
      have sg := same_new (o := HO.tup (as.map V.ref)) ng
      exact q _ g as ((s1.trans s2).trans sg) upd_same (nb.tk (tk_same sg))
end
end K66

set_option Elab.async false
set_option linter.all false
set_option maxRecDepth 100000
set_option maxHeartbeats 1000000
/-! Own exceptions with one field: made, raised, caught, read. -/
namespace NB
open PySem PySem.Spec PyProof.Rows L2

/-- what the written part says of an own exception class, named x, with one field f -/
structure ExT (K : PySem.W.Frag) (mg : Str → Option Value) (x f : Str) (C fI : Addr) (fdI : FuncData) : Prop where
  gC : mg x = some (.ref C)
  oex : OexC K C
  noN : PySem.W.findIn K (.ref C) f = some none
  iC : PySem.W.findIn K (.ref C) "__init__" = some (some (.ref fI))
  tI : PySem.W.typeIn K (.ref fI) = some (.type "function")
  xf : XfC K C
  te : PySem.W.exmOne K (.ref C) (.ref C) = some true
  bI : Binds K fdI ["self", f] []
/-- an error of the class at S is what «except S» names -/
theorem exm_self {K : PySem.W.Frag} {S : Addr} (h1 : PySem.W.subIn K (.ref S) (.type "BaseException") = some true) (h2 : PySem.W.isClsIn K S = true) (h3 : PySem.W.typeIn K (.ref S) = some (.type "type")) (h4 : PySem.W.subIn K (.ref S) (.ref S) = some true) :
    PySem.W.exmOne K (.ref S) (.ref S) = some true := by
  have e1 : (PySem.W.subIn K (.ref S) (.type "BaseException") == some true) = true := by rw [h1] <;> rfl
  have e2 : ((PySem.W.clsIn K S).isSome && PySem.W.typeIn K (.ref S) == some (.type "type")) = true := by
    have h2' : (PySem.W.clsIn K S).isSome = true := h2
    rw [h2', h3] <;> rfl
  show (if (PySem.W.subIn K (.ref S) (.type "BaseException") == some true) = true then (if ((PySem.W.clsIn K S).isSome && PySem.W.typeIn K (.ref S) == some (.type "type")) = true then PySem.W.subIn K (.ref S) (.ref S) else none) else none) = some true
  rw [if_pos e1, if_pos e2]
  exact h4
/-- __init__(self, f): self.f = f -/
def spXI (C : Addr) (f : Str) : Sp := fun vs H Q _ => ∃ (a : Addr) (v : V), vs = [.ref a, v] ∧ H a = some (exo a C none) ∧ ∀ dx, H dx = none → dx ≠ a → Q .non (upd (upd H dx (exd dx [(f, v)])) a (exo a C (some dx)))
section
variable {P : Program} {w : World} {K : PySem.W.Frag} {mg : Str → Option Value} {base : Heap}
theorem heap_x {H : Hp} {a d : Addr} {o1 o2 o3 x : HO} (na : H a = none) (ne : d ≠ a) : upd (del (upd (upd (upd H a o1) d o2) a o3) a) d x = upd H d x := by
  funext b
  by_cases c : b = d
  · subst c
    rw [upd_same, upd_same]
  · rw [upd_ne c, upd_ne c]
    by_cases c2 : b = a
    · subst c2
      rw [del_same, na]
    · rw [del_ne c2, upd_ne c2, upd_ne c, upd_ne c2]
/-- what making one asks, behind its argument -/
theorem mkX {C : Addr} {f : Str} {v : V} {H : Hp} {Q : XK} (h : ∀ d, H d = none → Q (.ref C) (some d) (upd H d (.xd [(f, v)]))) :
    [v].length ≤ 1000 ∧ ∀ a, H a = none → spXI C f (.ref a :: ([v] ++ [])) (upd H a (exo a C none))
      (fun u H2 => u = .non ∧ ∃ (d : Addr) (fs : List (Str × V)), H2 a = some (exo a C (some d)) ∧ H2 d = some (exd d fs) ∧ H d = none ∧ Q (.ref C) (some d) (upd (del H2 a) d (.xd fs))) (fun _ _ _ => False) := by
  refine ⟨(show 1 ≤ 1000 by decide), fun a na => ⟨a, v, rfl, upd_same, fun dx ndx ne => ⟨rfl, dx, [(f, v)], upd_same, (upd_ne ne).trans upd_same, ?_, ?_⟩⟩⟩
  · rw [upd_ne ne] at ndx
    exact ndx
  · rw [heap_x na ne]
    refine h dx ?_
    rw [upd_ne ne] at ndx
    exact ndx
theorem pmk_x {X : Cx} {x f : Str} {C fI : Addr} {fdI : FuncData} {j : Nat} {e : Expr} {es : List Expr} {ta : TA} {p pos : Pos} (T : ExT X.K X.mg x f C fI fdI) (G : FnOk X.prog X.w X.K X.mg X.base CX0 1 fI fdI ["self", f] (spXI C f)) (hr : Room j X.A) (hj : 2 ≤ j) (ha : PA X (e :: es) ta) (hg : Gl X x := by rfl)
    (hdb : (x == ("__debug__" : Str)) = false := by decide) (he : starEach (e :: es) X.env = (false, eval e X.env) :: starEach es X.env := by rfl) (hpl : (backTo pos (starEach es X.env)).any (·.1) = false := by rfl) :
    PMk X (.Call (.Name x p) (e :: es) [] pos) (tMkO C (spXI C f) [] ta) := pmk_oex T.oex T.iC T.tI G (hr.mono hj) T.bI .nil pass0 hg T.gC ha hdb he hpl
/-- a def that raises nothing where its promise is so -/
theorem FnOk.noX {k : Nat} {f : Addr} {fd : FuncData} {ps : List Str} {sp sp' : Sp} (F : FnOk P w K mg base (L2.CX P w) k f fd ps sp) (h : ∀ vs H Q E, sp' vs H Q E → sp vs H Q E0) : FnOk P w K mg base CX0 k f fd ps sp' := by
  refine ⟨fun vs H Q E q => F.len vs H Q E0 (h _ _ _ _ q), fun A outer s H args us vs Q E hr he hb hv hs => codeAny_mono (F.run A outer s H args us vs Q E0 hr he hb hv (h _ _ _ _ hs)) ?_⟩
  intro r s' z
  cases r with
  | error e =>
    obtain ⟨_, _, _, _, _, _, _, _, _, _, _, _, z⟩ := (z : L2.CX P w outer H s E0 e s')
    exact z.elim
  | ok fl => cases fl <;> exact z
end
/-- a def that may raise, known by its promise -/
structure KnX (P : Program) (w : World) (K : PySem.W.Frag) (mg : Str → Option Value) (base : Heap) (k : Nat) (x : Str) (ps : List Str) (sp : Sp) (f : Addr) (fd : FuncData) : Prop where
  ok : FnOk P w K mg base (L2.CX P w) k f fd ps sp
  gl : mg x = some (.ref f)
  kp : PySem.W.keepIn K (.ref f) = true
  bi : Binds K fd ps []
section
variable {X : Cx} {k j : Nat} {x : Str} {ps : List Str} {sp : Sp} {f : Addr} {fd : FuncData} {p pos : Pos} {e : Expr} {es : List Expr} {t : TA} {W : WX} {E : XK}
/-- where it raises nothing -/
theorem pe_knX (C : KnX X.prog X.w X.K X.mg X.base k x ps sp f fd) (hr : Room j X.A) (hj : k ≤ j) (ha : PA X (e :: es) t) (hg : Gl X x := by rfl) (hdb : (x == ("__debug__" : Str)) = false := by decide)
    (he : starEach (e :: es) X.env = (false, eval e X.env) :: starEach es X.env := by rfl) (hpl : (backTo pos (starEach es X.env)).any (·.1) = false := by rfl) :
    PE X (.Call (.Name x p) (e :: es) [] pos) (tCall sp [] E0 t) := pe_call C.ok (hr.mono hj) hg C.gl C.kp C.bi .nil passL ha hdb he hpl
/-- within a try -/
theorem pe_knS (C : KnX X.prog X.w X.K X.mg X.base k x ps sp f fd) (hr : Room j X.A) (hj : k ≤ j) (tk : Takes X W) (ha : PA X (e :: es) t) (hg : Gl X x := by rfl) (hdb : (x == ("__debug__" : Str)) = false := by decide)
    (he : starEach (e :: es) X.env = (false, eval e X.env) :: starEach es X.env := by rfl) (hpl : (backTo pos (starEach es X.env)).any (·.1) = false := by rfl) :
    PE X (.Call (.Name x p) (e :: es) [] pos) (tCallS sp (WE W) t) := pe_callS C.ok (hr.mono hj) hg C.gl C.kp C.bi (fun σ => passAt tk σ) ha hdb he hpl
/-- where what it raises goes on -/
theorem pe_knP (C : KnX X.prog X.w X.K X.mg X.base k x ps sp f fd) (hr : Room j X.A) (hj : k ≤ j) (tk : Takes X (fun cls d _ H => E cls d H)) (ha : PA X (e :: es) t) (hg : Gl X x := by rfl) (hdb : (x == ("__debug__" : Str)) = false := by decide)
    (he : starEach (e :: es) X.env = (false, eval e X.env) :: starEach es X.env := by rfl) (hpl : (backTo pos (starEach es X.env)).any (·.1) = false := by rfl) :
    PE X (.Call (.Name x p) (e :: es) [] pos) (tCall sp [] E t) := pe_call C.ok (hr.mono hj) hg C.gl C.kp C.bi .nil (passes_call tk (fun _ _ _ _ h => h)) ha hdb he hpl
end
end NB

set_option Elab.async false
set_option linter.all false
set_option maxRecDepth 100000
set_option maxHeartbeats 1000000
/-! Lambdas without parameters that a law hands to a def of its own. -/
namespace NB
open PySem PySem.Spec PyProof.Rows L2 LamX
/-- as Fun.ok, with the def's own code object in hand -/
theorem okC {P : Program} {w : World} {K : PySem.W.Frag} {mg : Str → Option Value} {base : Heap} {x qual : Str} {st : Stmt} {f : Addr} {fd : FuncData} {N ps : List Str} {k : Nat} {sp : Sp} (F : Fun K x qual st f fd) (S : FnScope N ps (defScope st)) (len : ∀ vs H Q E, sp vs H Q E → vs.length = ps.length)
    (hbody : ∀ (A : Around) (outer : List Env) (s : Shared) (H : Hp) (vs : List V) (Q : VK) (E : XK), Room k (A.deeper (envOfC qual (defScope st) s.heap.objs.size f fd.code)) → sp vs H Q E →
      ∃ t, PSs (cxOf CX0 P w K mg base N qual (defScope st) f fd.code A outer s H E).nox (defBody st) t ∧ t { nx := fun _ H' => Q .non H', rt := Q } (start N vs) H) : FnOk P w K mg base CX0 (k + 1) f fd ps sp := by
  obtain ⟨oc, od, kV, doc, pm, an, cdv, ct, osl, rfl, lk, hcd⟩ := F.ex
  refine fn_of lk hcd S len fun A outer s H vs Q E hr hsp => ?_
  obtain ⟨t, h, q⟩ := hbody A outer s H vs Q E hr hsp
  exact ⟨t, h.nox, q⟩
/-- told, or refused with what it holds in the field f -/
def TCght (CK : Addr) (f : Str) (word : Str) : (XK → Hp → VK → Prop) → Hp → VK → Prop := fun tl H Q =>
  tl (fun cls d H' => cls = .ref CK ∧ ∃ (dd : Addr) (v : V), d = some dd ∧ H' dd = some (.xd [(f, v)]) ∧ ∀ T, H' T = none → Q (.ref T) (upd H' T (.tup [.str word, v]))) H
    (fun v H1 => ∀ T, H1 T = none → Q (.ref T) (upd H1 T (.tup [.str "told", v])))
end NB

set_option Elab.async false
set_option linter.all false
set_option maxRecDepth 100000
set_option maxHeartbeats 4000000
/-! {a, b}: a set of two whole numbers, or of one. -/
namespace NB
open PySem PySem.Spec PyProof.Rows L2
theorem kds_of {K : PySem.W.Frag} {x qual : Str} {st : Stmt} {f : Addr} {fd : FuncData} (F : Fun K x qual st f fd) : PySem.W.kdsCode K fd.code = true := by
  obtain ⟨oc, od, kV, doc, pm, an, c, ct, osl, rfl, lk, hc⟩ := F.ex
  exact kdsCode_of hc
section
variable {X : Cx} {e1 e2 : Expr} {ta tb : TE} {pos : Pos}
def tSetD (w : World) (ta tb : TE) : TE := fun σ H Q => ∀ p, H p = none → ta σ (upd H p (SetO w p (fun _ => false) 0)) fun x H1 => tb σ H1 fun y H2 => ∃ i j : Int, x = .int i ∧ y = .int j ∧ H2 p = some (SetO w p (fun _ => false) 0) ∧ ∀ c, c ≤ 2 → Q (.ref p) (upd H2 p (SetO w p (fun k => decide (k = i) || decide (k = j)) c))
theorem set_core {P : Program} {w : World} {A : Around} {E : Value → Shared → Prop} {s : Shared} {road : DisplayRoad} {b : Bool} {elts : List (Bool × Sem Value)} {ts : List (Sem Value)} {Q : Value → Shared → Prop} (hroad : (road == .constants) = false) (hu : (road == DisplayRoad.unsure) = false) (hs : elts.findIdx? (·.1) = none) (hlen : elts.length ≤ 30) (hm : elts.map (·.2) = ts)
    (h : wpAny (model P w) A (evalAll ts) (fun vs s' => PySem.W.KdsFill (model P w) A E false s.heap.objs.size Q vs s') E { s with heap := s.heap.push (emI w) }) :
    wpAny (model P w) A (setDisplay road b elts) Q E s := by
  have hn : (if elts.length > 30 then 0 else (elts.findIdx? (·.1)).getD elts.length) = elts.length := by rw [if_neg (by omega), hs]; rfl
  unfold setDisplay
  try dsimp only
  rw [if_neg (by rw [hroad]; exact Bool.false_ne_true)]
  refine wpAny_bind (PpSet.newSet_ok ?_)
  dsimp only
  rw [hn, List.take_length, List.drop_length, hm]
  refine wpAny_bind (wpAny_holding ?_)
  refine wpAny_bind (wpAny_mono h (fun vs s' h' => ?_) fun _ _ x => x)
  refine wpAny_bind (wpAny_holding ?_)
  refine wpAny_bind (wpAny_mono (PySem.W.kds_for (fun x P s hx => ?_) vs s' h') (fun _ s1 h1 => ?_) fun _ _ x => x)
  · refine wpAny_bind (wpAny_mono hx (fun _ s2 h2 => ?_) fun _ _ x => x)
    first | exact wpAny_pure ⟨rfl, h2⟩ | exact wpAny_bind (wpAny_pure (wpAny_pure ⟨rfl, h2⟩))
  · have h2 : Q (.ref s.heap.objs.size) s1 := by simpa [PySem.W.KdsFill] using h1
    rw [hu, if_neg Bool.false_ne_true]
    refine wpAny_pure ?_
    rw [List.forIn_nil]
    exact wpAny_pure (wpAny_pure h2)
/-- {a, b} -/
theorem pe_setD (ha : PE X e1 ta) (hb : PE X e2 tb) (h1 : PySem.W.kdsPlain e1 = true) (h2 : PySem.W.kdsPlain e2 = true) (hcd : PySem.W.kdsCode X.K X.env.code = true) : PE X (.Set [e1, e2] 0 pos) (tSetD X.w ta tb) := by
  refine ⟨fun pins s σ H Q I h => ?_⟩
  rw [arm_eval_Set]
  refine wpAny_bind (wpAny_standAt ?_)
  refine wpAny_bind (PySem.W.kds_main I.kIn hcd fun b => ?_)
  rw [PySem.W.kds_star [e1, e2] (by simp [h1, h2]), List.map_map]
  have hn : H s.heap.objs.size = none := I.hok.fresh (Nat.le_refl _)
  have new : SetR X.w (s.heap.push (emI X.w)) s.heap.objs.size (fun _ => false) 0 := setR_fresh X.w
  have I1 := I.laid (t' := s.toks) (fun b u e => Heap.get?_push_of_some _ e) (Nat.le_refl _) (setO_new (P := X.prog) (H := upd H s.heap.objs.size (SetO X.w s.heap.objs.size (fun _ => false) 0)) new)
  refine set_core (ts := (evalEach [e1, e2] X.env).map fun t => do let v ← t; standAt pos; pure v) (by rfl) (by rfl) ?_ (by rw [List.length_map, PySem.W.kds_len]; show 2 ≤ 30; decide) ?_ ?_
  · refine List.findIdx?_eq_none_iff.mpr fun x hx => ?_
    obtain ⟨t, _, rfl⟩ := List.mem_map.mp hx
    rfl
  · rw [List.map_map]
    try rfl
  · refine PySem.W.kds_all pos [e1, e2] _ _ ?_
    show wpAny _ _ (eval e1 X.env) (fun v s' => wpAny _ _ (eval e2 X.env) _ _ s') _ _
    refine thn (ha.run pins _ σ _ _ I1 (h _ hn)) fun v1 s1 ⟨x, H1, J1, r1, q1⟩ => thn (hb.run pins s1 σ H1 _ J1 q1) fun v2 s2 ⟨y, H2, J2, r2, i, j, e1, e2, ep, q2⟩ => ?_
    subst e1 e2
    obtain ⟨t1, rfl⟩ := r1
    obtain ⟨t2, rfl⟩ := r2
    have R := setO_get J2 ep
    refine PySem.W.kds_fill_cons ?_
    unfold setAdd
    refine wpAny_holding (wpAny_bind ((intKind X.prog X.w).pyHash (k := i) (intKind_is _ _ _ _) ?_))
    refine setR_add_hashed (s := { s2 with toks := s2.toks + 1 }) R (by decide) fun h' sb R1 => ?_
    refine PySem.W.kds_fill_cons ?_
    unfold setAdd
    refine wpAny_holding (wpAny_bind ((intKind X.prog X.w).pyHash (k := j) (intKind_is _ _ _ _) ?_))
    refine setR_add_hashed (s := { s2 with heap := h', toks := s2.toks + 1 + 1 }) R1 (by split <;> decide) fun h2 sb2 R2 => ?_
    refine PySem.W.kds_fill_nil rfl ?_
    have he : ∃ u, h2.get? s.heap.objs.size = some u := by
      have ⟨o, _, _, _, ho, _⟩ := R2
      exact ⟨o, ho⟩
    refine ⟨.ref s.heap.objs.size, _, J2.write (e := s.heap.objs.size) (t' := s2.toks + 1 + 1) (by rw [ep]; trivial) (.inl rfl) (fun b u hb hu => (sb2.2 b hb).trans ((sb.2 b hb).trans hu)) he (setO_new R2), rfl, ?_⟩
    refine q2 _ ?_
    split <;> split <;> omega
end
end NB

set_option Elab.async false
set_option linter.all false
set_option maxRecDepth 100000
namespace K66
open PySem PySem.Spec PyProof.Rows L2 NB

/-! ### a rule is put -/
def thsOf (q : Rl) : List Nat := if q.1.1 = q.2.1 then [q.1.1] else if q.1.1 < q.2.1 then [q.1.1, q.2.1] else [q.2.1, q.1.1]
def spThings : Sp := fun vs H Q _ => ∃ (r : Addr) (q : Rl), vs = [.ref r] ∧ RuleAt H r q ∧ ∀ H' g, Same H H' → H' g = some (.lst ((thsOf q).map fun n : Nat => V.int (n : Int))) → Q (.ref g) H'
section
variable {P : Program} {w : World} {K : PySem.W.Frag} {mg : Str → Option Value} {base : Heap}
abbrev a_things_of : Stmt := topS 45
abbrev n_things_of : List Str := ["rule"]
theorem sc_things_of : FnScope n_things_of ["rule"] (defScope a_things_of) := ⟨rfl, rfl, rfl, by decide +kernel, rfl, by decide +kernel, by decide +kernel⟩
set_option maxHeartbeats 8000000 in
theorem ok_things_of {f  : Addr} {fd  : FuncData} {k : Nat}  (F : Fun K "things_of" "things_of" a_things_of f fd)   (m_sorted : mg "sorted" = none) : FnOk P w K mg base CX0 (k + 1) f fd ["rule"] spThings := by
  refine okC F sc_things_of (fun vs H Q E h => ?_) (fun A outer s H vs Q E hr h => ?_)
  · obtain ⟨r, q0, rfl, _⟩ := h
    rfl
  · obtain ⟨r, q0, rfl, er, q⟩ := h
    refine ⟨_, (pss_one (ps_ret (pe_callB (cr_sortedSet rfl) (by rfl) m_sorted (by decide +kernel) (pa_cons (pe_setD (pe_ix ix_tup (pe_ix ix_tup (pv 0) pe_int (fun _ _ => rfl)) pe_int (fun _ _ => rfl)) (pe_ix ix_tup (pe_ix ix_tup (pv 0) pe_int (fun _ _ => rfl)) pe_int (fun _ _ => rfl)) rfl rfl (kds_of F)) pa_nil)))), ?_⟩
    obtain ⟨p1, p2, e, e1, e2⟩ := id er
    have e1' : H p1 = some (.tup [.int (q0.1.1 : Int), .str (word q0.1.2.1), .int q0.1.2.2]) := e1
    have e2' : H p2 = some (.tup [.int (q0.2.1 : Int), .str (word q0.2.2.1), .int q0.2.2.2]) := e2
    refine fun p0 np0 => ?_
    have s1 := same_new (o := SetO w p0 (fun _ => false) 0) np0
    refine ⟨.ref r, rfl, r, _, 0, .ref p1, rfl, rfl, .inl (.inl (s1 _ _ e)), atI_nat (j := 0) rfl, p1, _, 0, _, rfl, rfl, .inl (.inl (s1 _ _ e1')), atI_nat (j := 0) rfl, .ref r, rfl, r, _, 1, .ref p2, rfl, rfl, .inl (.inl (s1 _ _ e)), atI_nat (j := 1) rfl, p2, _, 0, _, rfl, rfl, .inl (.inl (s1 _ _ e2')), atI_nat (j := 0) rfl, (q0.1.1 : Int), (q0.2.1 : Int), rfl, rfl, upd_same, fun c hc => ?_⟩
    rw [upd_upd]
    refine ⟨p0, _, c, rfl, upd_same, by omega, fun ns g pw mem _ ng => ?_⟩
    have s2 := same_new (o := SetO w p0 (fun k => decide (k = (q0.1.1 : Int)) || decide (k = (q0.2.1 : Int))) c) np0
    have en : ns = (thsOf q0).map fun n : Nat => (n : Int) := by
      refine strict_uniq (fun k => ?_) pw ?_
      · rw [mem k]
        unfold thsOf
        split
        · next z => rw [z]; simp
        · split
          · simp
          · simp
            exact or_comm
      · unfold thsOf
        split
        · exact List.pairwise_singleton _ _
        · split
          · next h => simp; omega
          · next h1 h2 => simp; omega
    subst en
    have el : ((thsOf q0).map fun n : Nat => (n : Int)).map V.int = (thsOf q0).map fun n : Nat => V.int (n : Int) := by rw [List.map_map]; rfl
    exact q _ g (s2.trans (same_new ng)) (by rw [upd_same, el])
end
end K66

set_option Elab.async false
set_option linter.all false
set_option maxRecDepth 100000
namespace K66
open PySem PySem.Spec PyProof.Rows L2 NB

/-! ### a rule more -/
def putHs (hs : List Hd) (ts : List Nat) (n : Int) (q : Rl) (c : Int) : List Hd := ts.foldl (fun hs t => match hs[t]? with
  | some h => hs.set t { h with rows := h.rows ++ [(n, q, c)] }
  | none => hs) hs
def addR (σ : Sta) (q : Rl) : Sta := { σ with hands := putHs σ.hands (thsOf q) σ.nr q (frC q (plsOf σ)), rules := σ.rules ++ [(σ.nr, q)], nr := σ.nr + 1 }
theorem putHs_len (hs : List Hd) (ts : List Nat) (n : Int) (q : Rl) (c : Int) : (putHs hs ts n q c).length = hs.length := by
  unfold putHs
  induction ts generalizing hs with
  | nil => rfl
  | cons t ts ih =>
    rw [List.foldl_cons, ih]
    split
    · rw [List.length_set]
    · rfl
theorem hAs_own {zs : List HA} {z : HA} {b : Addr} (hz : z ∈ zs) (hb : b ∈ hAs z) : b ∈ ownH zs := List.mem_flatMap.mpr ⟨z, hz, hb⟩
theorem tk_hand {C : Addr} {H H' : Hp} {z : HA} {h : Hd} (a : HandAt C H z.1 z.2.1 z.2.2 h) (u : ∃ kvs, H z.2.1 = some (.dK kvs)) (k : ButL (hAs z) H H') : TupK H H' := fun b xs e => k _ _ (fun hb => by
  obtain ⟨dx, v, hs, e0, _, _, t, _⟩ := a
  have e0' : H z.1 = some (.ins C dx [("thing", .int (h.thing : Int)), ("place", .int h.place), ("wish", v), ("held", .ref z.2.1), ("tally", .ref z.2.2)]) := e0
  obtain ⟨kvs, u⟩ := u
  simp only [hAs, List.mem_cons, List.not_mem_nil, or_false] at hb
  rcases hb with w | w | w
  · rw [w, e0'] at e; cases e
  · rw [w, u] at e; cases e
  · rw [w, t] at e; cases e) e
/-- one hand of a state changes -/
theorem StAt.hand {CS C : Addr} {H H' : Hp} {s ds tp R Hs Ls : Addr} {zs : List HA} {rs : List (Int × Addr)} {ls : List Addr} {σ : Sta} {i : Nat} {z : HA} {h' : Hd} (a : StAt CS C H s ds tp R Hs Ls zs rs ls σ) (e : zs[i]? = some z) (k : ButL (hAs z) H H') (ha : HandAt C H' z.1 z.2.1 z.2.2 h') (u : ∃ kvs, H' z.2.1 = some (.dK kvs)) :
    StAt CS C H' s ds tp R Hs Ls zs rs ls { σ with hands := σ.hands.set i h' } ∧ TupK H H' := by
  have hz := List.mem_of_getElem? e
  obtain ⟨h, _, a0, u0⟩ := a.fhs.get e
  have tk := tk_hand a0 u0 k
  have nd := a.fnd
  rw [List.nodup_append] at nd
  have far : ∀ b ∈ [s, R, Hs, Ls], b ∉ hAs z := fun b hb hb' => nd.2.2 b hb b (hAs_own hz hb') rfl
  exact ⟨⟨k _ _ (far _ (by simp)) a.fs, tk _ _ a.ft, k _ _ (far _ (by simp)) a.fr, a.fru.tk tk, k _ _ (far _ (by simp)) a.fh, a.fhs.set nd.2.1 e k tk ha u, k _ _ (far _ (by simp)) a.fl, a.fla.tk tk, a.fnd⟩, tk⟩
theorem putK_newI {rs : List (Int × Addr)} {n : Int} {r : Addr} (h : n ∉ rs.map (·.1)) : putK (kvH rs) (Sum.inl n) (V.ref r) = kvH (rs ++ [(n, r)]) := by
  unfold putK
  rw [if_neg]
  · unfold kvH
    rw [List.map_append]
    rfl
  · intro z
    obtain ⟨y, hy, hz⟩ := List.any_eq_true.mp z
    obtain ⟨w, hw, rfl⟩ := List.mem_map.mp hy
    have : (Sum.inl w.1 : Key) = Sum.inl n := of_decide_eq_true hz
    exact h (List.mem_map.mpr ⟨w, hw, Sum.inl.inj this⟩)
theorem putHs_snoc {hs : List Hd} {ts : List Nat} {t : Nat} {n : Int} {q : Rl} {c : Int} {h : Hd} (e : (putHs hs ts n q c)[t]? = some h) : putHs hs (ts ++ [t]) n q c = (putHs hs ts n q c).set t { h with rows := h.rows ++ [(n, q, c)] } := by
  have z : putHs hs (ts ++ [t]) n q c = (match (putHs hs ts n q c)[t]? with
    | some h => (putHs hs ts n q c).set t { h with rows := h.rows ++ [(n, q, c)] }
    | none => putHs hs ts n q c) := by
    unfold putHs
    rw [List.foldl_append]
    rfl
  rw [z, e]
theorem putHs_out {hs : List Hd} {ts : List Nat} {t : Nat} {n : Int} {q : Rl} {c : Int} (h : t ∉ ts) : (putHs hs ts n q c)[t]? = hs[t]? := by
  unfold putHs
  induction ts generalizing hs with
  | nil => rfl
  | cons u us ih =>
    rw [List.foldl_cons, ih (fun z => h (List.mem_cons_of_mem _ z))]
    split
    · exact List.getElem?_set_ne (fun z => h (by rw [z]; exact List.mem_cons_self))
    · rfl
theorem ths_nodup (q : Rl) : (thsOf q).Nodup := by
  unfold thsOf
  split
  · simp
  · next h =>
    split
    · simp [h]
    · simp
      exact fun z => h z.symm
theorem ths_lt {q : Rl} {n : Nat} (h1 : q.1.1 < n) (h2 : q.2.1 < n) : ∀ t ∈ thsOf q, t < n := by
  unfold thsOf
  split
  · intro t h; simp at h; omega
  · split <;> (intro t h; simp at h; omega)
/-- a rule more in the dict of rules, and the next number -/
theorem StAt.rule {CS C : Addr} {H : Hp} {s ds tp R Hs Ls : Addr} {zs : List HA} {rs : List (Int × Addr)} {ls : List Addr} {σ : Sta} {r : Addr} {q : Rl} (a : StAt CS C H s ds tp R Hs Ls zs rs ls σ) (er : RuleAt H r q) :
    (upd H R (.dK (kvH (rs ++ [(σ.nr, r)])))) s = some (.ins CS ds (stF (.ref tp) (.ref R) (.ref Hs) (.ref Ls) (.int σ.nm) (.int σ.nr) (.int σ.lw) (.int σ.ag))) ∧
    StAt CS C (upd (upd H R (.dK (kvH (rs ++ [(σ.nr, r)])))) s (.ins CS ds (stF (.ref tp) (.ref R) (.ref Hs) (.ref Ls) (.int σ.nm) (.int (σ.nr + 1)) (.int σ.lw) (.int σ.ag)))) s ds tp R Hs Ls zs (rs ++ [(σ.nr, r)]) ls { σ with rules := σ.rules ++ [(σ.nr, q)], nr := σ.nr + 1 } ∧
    ButL [s, R] H (upd (upd H R (.dK (kvH (rs ++ [(σ.nr, r)])))) s (.ins CS ds (stF (.ref tp) (.ref R) (.ref Hs) (.ref Ls) (.int σ.nm) (.int (σ.nr + 1)) (.int σ.lw) (.int σ.ag)))) := by
  have nd := a.fnd
  rw [List.nodup_append] at nd
  have nd1 := nd.1
  simp only [List.nodup_cons, List.mem_cons, List.not_mem_nil, or_false, not_or] at nd1
  obtain ⟨⟨sR, sH, sL⟩, ⟨RH, RL⟩, HL, _⟩ := nd1
  have e1 : (upd H R (.dK (kvH (rs ++ [(σ.nr, r)])))) s = some (.ins CS ds (stF (.ref tp) (.ref R) (.ref Hs) (.ref Ls) (.int σ.nm) (.int σ.nr) (.int σ.lw) (.int σ.ag))) := (upd_ne sR).trans a.fs
  have k : ButL [s, R] H (upd (upd H R (.dK (kvH (rs ++ [(σ.nr, r)])))) s (.ins CS ds (stF (.ref tp) (.ref R) (.ref Hs) (.ref Ls) (.int σ.nm) (.int (σ.nr + 1)) (.int σ.lw) (.int σ.ag)))) := fun b o nb e => by
    simp only [List.mem_cons, List.not_mem_nil, or_false, not_or] at nb
    rw [upd_ne nb.1, upd_ne nb.2]
    exact e
  have tk : TupK H (upd (upd H R (.dK (kvH (rs ++ [(σ.nr, r)])))) s (.ins CS ds (stF (.ref tp) (.ref R) (.ref Hs) (.ref Ls) (.int σ.nm) (.int (σ.nr + 1)) (.int σ.lw) (.int σ.ag)))) := fun b xs e => k _ _ (fun hb => by
    simp only [List.mem_cons, List.not_mem_nil, or_false] at hb
    rcases hb with w | w
    · rw [w, a.fs] at e; cases e
    · rw [w, a.fr] at e; cases e) e
  refine ⟨e1, ⟨upd_same, tk _ _ a.ft, (upd_ne (Ne.symm sR)).trans upd_same, (a.fru.tk tk).snoc (er.tk tk), ?_, a.fhs.farL k tk fun b hb hz => ?_, ?_, a.fla.tk tk, a.fnd⟩, k⟩
  · exact k _ _ (by simp only [List.mem_cons, List.not_mem_nil, or_false, not_or]; exact ⟨Ne.symm sH, Ne.symm RH⟩) a.fh
  · refine nd.2.2 b ?_ b hb rfl
    simp only [List.mem_cons, List.not_mem_nil, or_false] at hz ⊢
    rcases hz with w | w
    · exact .inl w
    · exact .inr (.inl w)
  · exact k _ _ (by simp only [List.mem_cons, List.not_mem_nil, or_false, not_or]; exact ⟨Ne.symm sL, Ne.symm RL⟩) a.fl
theorem hAs_nodup : ∀ {zs : List HA} {z : HA}, (ownH zs).Nodup → z ∈ zs → (hAs z).Nodup
  | y :: zs, z, nd, h => by
    have nd' : (hAs y ++ ownH zs).Nodup := nd
    rw [List.nodup_append] at nd'
    rcases List.mem_cons.mp h with rfl | h
    · exact nd'.1
    · exact hAs_nodup nd'.2.1 h
def AddOk (σ : Sta) (q : Rl) : Prop := q.1.1 < σ.hands.length ∧ q.2.1 < σ.hands.length ∧ (∀ h ∈ σ.hands, σ.nr ∉ h.rows.map (·.1) ∧ h.rows.length ≤ 60) ∧ σ.nr ∉ σ.rules.map (·.1) ∧ σ.rules.length ≤ 60 ∧ σ.hands.length ≤ 12
def spAddR (CS C : Addr) : Sp := fun vs H Q _ => ∃ (s r : Addr) (own : List Addr) (σ : Sta) (q : Rl), vs = [.ref s, .ref r] ∧ StX CS C H s own σ ∧ RuleAt H r q ∧ AddOk σ q ∧ ∀ H', ButL own H H' → StX CS C H' s own (addR σ q) → Q (.int σ.nr) H'
section
variable {P : Program} {w : World} {K : PySem.W.Frag} {mg : Str → Option Value} {base : Heap}
abbrev a_add_rule : Stmt := topS 47
abbrev n_add_rule : List Str := ["state", "rule", "number", "count", "thing"]
theorem sc_add_rule : FnScope n_add_rule ["state", "rule"] (defScope a_add_rule) := ⟨rfl, rfl, rfl, by decide +kernel, rfl, by decide +kernel, by decide +kernel⟩
set_option maxHeartbeats 8000000 in
theorem ok_add_rule {f fFc fSo fTh : Addr} {fd fdFc fdSo fdTh : FuncData} {k : Nat} {CS C : Addr} (F : Fun K "add_rule" "add_rule" a_add_rule f fd) (Fc : Kn P w K mg base 2 "first_count" ["rule", "standing"] spFrC fFc fdFc) (So : Kn P w K mg base 1 "standing_of" ["state"] (spStOf CS C) fSo fdSo) (Th : Kn P w K mg base 1 "things_of" ["rule"] spThings fTh fdTh) (Hpu : C8.Met P w K mg base 3 C "put" (spHPut C) []) (XS : StateTxt K CS) (X : HandTxt K C)  : FnOk P w K mg base CX0 (k + 4) f fd ["state", "rule"] (spAddR CS C) := by
  refine F.ok sc_add_rule (fun vs H Q E h => ?_) (fun cdv A outer s H vs Q E hr h => ?_)
  · obtain ⟨s, r, own, σ, q0, rfl, _⟩ := h
    rfl
  · obtain ⟨s, r, own, σ, q0, rfl, hs, er, ok, q⟩ := h
    refine ⟨_, (pss_cons (ps_set (i := 2) sc_add_rule.nd rfl (.inl rfl) (pe_fld (pv 0) rfl))
      (pss_cons (ps_set (i := 3) sc_add_rule.nd rfl (.inl rfl) (pe_kn Fc hr (by omega) (pa_cons (pv 1) (pa_cons (pe_kn So hr (by omega) (pa_cons (pv 0) pa_nil)) pa_nil))))
      (pss_cons (ps_for PassesOwn.never rfl (pi_list (pe_kn Th hr (by omega) (pa_cons (pv 1) pa_nil))) (pg_name (i := 4) sc_add_rule.nd rfl (.inl rfl))
        (pss_one (ps_expr (C8.pe_mt Hpu hr (by omega) (pe_ix ix_list (pe_fld (pv 0) rfl) (pv 4) (fun _ _ => rfl)) (pa_cons (pv 2) (pa_cons (pv 1) (pa_cons (pv 3) pa_nil)))))))
      (pss_cons (ps_asg (pv 1) (pg_sub (pe_fld (pv 0) rfl) (pv 2) (set_dict (hu_of hr))))
      (pss_cons (ps_fld (pv 0) (pe_op op_add (pv 2) pe_int) rfl)
      (pss_one (ps_ret (pv 2)))))))), ?_⟩
    obtain ⟨ds, tp, R, Hs, Ls, zs, rs, ls, eo, st⟩ := hs
    obtain ⟨o1, o2, oh, onr, o60, o12⟩ := ok
    have zl := st.fhs.len
    refine ⟨.ref s, rfl, s, CS, ds, _, _, rfl, st.fs, XS.cl, XS.n6, sk6, .ref r, rfl, .ref s, rfl, s, own, σ, rfl, ⟨ds, tp, R, Hs, Ls, zs, rs, ls, eo, st⟩, o12, fun H1 g1 s1 eg1 => ⟨r, g1, q0, plsOf σ, rfl, er.tk (tk_same s1), eg1, by unfold plsOf; rw [List.length_map]; exact o2, ?_⟩⟩
    refine ⟨.ref r, rfl, r, q0, rfl, er.tk (tk_same s1), fun H2 g2 s2 eg2 => ?_⟩
    have s12 := s1.trans s2
    have st2 := st.same s12
    have er2 := er.tk (tk_same s12)
    have ts_lt := ths_lt o1 o2
    have nd := ths_nodup q0
    have nd0 := st.fnd
    rw [List.nodup_append] at nd0
    generalize ec : frC q0 (plsOf σ) = c
    refine ⟨g2, rfl, ⟨_, .inl (.inl eg2)⟩, for_it (walk_list (xs := (thsOf q0).map fun n : Nat => V.int (n : Int))) (fun i σ' H' => (∃ u, σ' = [some (.ref s), some (.ref r), some (.int σ.nr), some (.int c), u]) ∧ StAt CS C H' s ds tp R Hs Ls zs rs ls { σ with hands := putHs σ.hands ((thsOf q0).take i) σ.nr q0 c } ∧ RuleAt H' r q0 ∧ H' g2 = some (.lst ((thsOf q0).map fun n : Nat => V.int (n : Int))) ∧ ButL own H H')
      ⟨⟨none, rfl⟩, st2, er2, eg2, ButL.of s12⟩ (fun i σ' H' _ p => .inl (.inl p.2.2.2.1)) (fun i v σ' H4 H4' hi p yy => ?_) (fun σ' H4 p => ?_)⟩
    · obtain ⟨⟨u, rfl⟩, st4, er4, eg4, b4⟩ := p
      obtain ⟨rfl, gv⟩ := yy
      obtain ⟨t, et, rfl⟩ := mapGet gv
      have tm : t ∈ thsOf q0 := List.mem_of_getElem? et
      have tl := ts_lt t tm
      have il : i < (thsOf q0).length := by simpa using hi
      have tn : t ∉ (thsOf q0).take i := fun z => by
        have z2 : t ∈ (thsOf q0).drop i := by
          rw [List.drop_eq_getElem_cons il, (List.getElem?_eq_some_iff.mp et).2]
          exact List.mem_cons_self
        have nd2 := nd
        rw [← List.take_append_drop i (thsOf q0), List.nodup_append] at nd2
        exact nd2.2.2 t z t z2 rfl
      have tz : t < zs.length := by omega
      have ez : zs[t]? = some zs[t] := List.getElem?_eq_getElem tz
      generalize zs[t] = z at ez
      have hz := List.mem_of_getElem? ez
      obtain ⟨h, eh, a0, u0⟩ := st4.fhs.get ez
      have eh' : (putHs σ.hands ((thsOf q0).take i) σ.nr q0 c)[t]? = some h := eh
      have eh0 := eh'
      rw [putHs_out tn] at eh0
      have okh := oh h (List.mem_of_getElem? eh0)
      have ndz := hAs_nodup nd0.2.1 hz
      have DT : z.2.1 ≠ z.2.2 := by
        intro w
        unfold hAs at ndz
        simp [w] at ndz
      have ah := a0
      obtain ⟨dx, v, hs, e0, w0, d0, t0, l0⟩ := ah
      have e0' : H4' z.1 = some (.ins C dx [("thing", .int (h.thing : Int)), ("place", .int h.place), ("wish", v), ("held", .ref z.2.1), ("tally", .ref z.2.2)]) := e0
      refine ⟨.ref s, rfl, s, CS, ds, _, _, rfl, st4.fs, XS.cl, XS.n3, sk3, .int (t : Int), rfl, Hs, _, (t : Int), _, rfl, rfl, .inl (.inl st4.fh), atI_nat (j := t) (by rw [List.getElem?_map, ez]; rfl), z.1, dx, _, rfl, e0', rfl, .int σ.nr, rfl, .ref r, rfl, .int c, rfl, z.1, z.2.1, z.2.2, r, h, σ.nr, c, q0, rfl, a0, DT, u0, er4, okh.1, okh.2, fun H5 k5 a5 u5 => ?_⟩
      have k5' : ButL (hAs z) H4' H5 := fun b o nb e => by
        simp only [hAs, List.mem_cons, List.not_mem_nil, or_false, not_or] at nb
        exact k5 b o nb.2.1 nb.2.2 e
      obtain ⟨st5, tk5⟩ := st4.hand ez k5' a5 u5
      have g5 : g2 ∉ hAs z := fun w => by
        simp only [hAs, List.mem_cons, List.not_mem_nil, or_false] at w
        obtain ⟨kvs, u0⟩ := u0
        rcases w with w | w | w
        · rw [w, e0'] at eg4; cases eg4
        · rw [w, u0] at eg4; cases eg4
        · rw [w, t0] at eg4; cases eg4
      refine ⟨⟨_, rfl⟩, ?_, er4.tk tk5, k5' _ _ g5 eg4, b4.trans (k5'.mono fun b hb => by rw [eo]; exact List.mem_append_right _ (hAs_own hz hb))⟩
      rw [List.take_add_one, et]
      show StAt CS C H5 s ds tp R Hs Ls zs rs ls { σ with hands := putHs σ.hands ((thsOf q0).take i ++ [t]) σ.nr q0 c }
      rw [putHs_snoc eh']
      exact st5
    · obtain ⟨⟨u, rfl⟩, st4, er4, eg4, b4⟩ := p
      have tk : (thsOf q0).take ((thsOf q0).map fun n : Nat => V.int (n : Int)).length = thsOf q0 := List.take_of_length_le (by rw [List.length_map]; exact Nat.le_refl _)
      rw [tk] at st4
      obtain ⟨e5, st5, b5⟩ := st4.rule er4
      have nn : σ.nr ∉ rs.map (·.1) := by rw [st4.fru.1]; exact onr
      have ll : (kvH rs).length < sizeLine := by
        unfold kvH
        rw [List.length_map]
        have e0 := st.fru.len
        exact small1000 (by omega)
      refine ⟨.ref r, rfl, .ref s, rfl, s, CS, ds, _, _, rfl, st4.fs, XS.cl, XS.n2, sk2, _, rfl, R, _, rfl, DPut.k (k := .inl σ.nr) st4.fr ll, ?_⟩
      rw [putK_newI nn]
      refine ⟨.int σ.nr, rfl, σ.nr, 1, rfl, rfl, .ref s, rfl, s, CS, ds, _, rfl, e5, XS.cl, XS.n6, (show 8 < 1000 by decide), ?_⟩
      rw [sp6]
      refine ⟨.int σ.nr, rfl, ?_⟩
      refine q _ (b4.trans (b5.mono fun b hb => by rw [eo]; exact List.mem_append_left _ (by simp only [List.mem_cons, List.not_mem_nil, or_false] at hb ⊢; rcases hb with w | w <;> simp [w]))) ⟨ds, tp, R, Hs, Ls, zs, rs ++ [(σ.nr, r)], ls, eo, ?_⟩
      unfold addR
      rw [ec]
      exact st5
end
end K66

set_option Elab.async false
set_option linter.all false
set_option maxRecDepth 100000
namespace K66
open PySem PySem.Spec PyProof.Rows L2 NB

/-! ### a letter more -/
def sendS (σ : Sta) (to : Int) (l : Lt) : Sta := { σ with letters := σ.letters ++ [(σ.nm, to, l)], nm := σ.nm + 1 }
theorem StAt.letter {CS C : Addr} {H : Hp} {s ds tp R Hs Ls : Addr} {zs : List HA} {rs : List (Int × Addr)} {ls : List Addr} {σ : Sta} {a p : Addr} {to : Int} {l : Lt} (st : StAt CS C H s ds tp R Hs Ls zs rs ls σ) (ea : H a = some (.tup [.int σ.nm, .int to, .ref p])) (el : LetAt H p l) :
    (upd H Ls (.lst ((ls ++ [a]).map V.ref))) s = some (.ins CS ds (stF (.ref tp) (.ref R) (.ref Hs) (.ref Ls) (.int σ.nm) (.int σ.nr) (.int σ.lw) (.int σ.ag))) ∧
    StAt CS C (upd (upd H Ls (.lst ((ls ++ [a]).map V.ref))) s (.ins CS ds (stF (.ref tp) (.ref R) (.ref Hs) (.ref Ls) (.int (σ.nm + 1)) (.int σ.nr) (.int σ.lw) (.int σ.ag)))) s ds tp R Hs Ls zs rs (ls ++ [a]) (sendS σ to l) ∧
    ButL [s, Ls] H (upd (upd H Ls (.lst ((ls ++ [a]).map V.ref))) s (.ins CS ds (stF (.ref tp) (.ref R) (.ref Hs) (.ref Ls) (.int (σ.nm + 1)) (.int σ.nr) (.int σ.lw) (.int σ.ag)))) := by
  have nd := st.fnd
  rw [List.nodup_append] at nd
  have nd1 := nd.1
  simp only [List.nodup_cons, List.mem_cons, List.not_mem_nil, or_false, not_or] at nd1
  obtain ⟨⟨sR, sH, sL⟩, ⟨RH, RL⟩, HL, _⟩ := nd1
  have e1 : (upd H Ls (.lst ((ls ++ [a]).map V.ref))) s = some (.ins CS ds (stF (.ref tp) (.ref R) (.ref Hs) (.ref Ls) (.int σ.nm) (.int σ.nr) (.int σ.lw) (.int σ.ag))) := (upd_ne sL).trans st.fs
  have k : ButL [s, Ls] H (upd (upd H Ls (.lst ((ls ++ [a]).map V.ref))) s (.ins CS ds (stF (.ref tp) (.ref R) (.ref Hs) (.ref Ls) (.int (σ.nm + 1)) (.int σ.nr) (.int σ.lw) (.int σ.ag)))) := fun b o nb e => by
    simp only [List.mem_cons, List.not_mem_nil, or_false, not_or] at nb
    rw [upd_ne nb.1, upd_ne nb.2]
    exact e
  have tk : TupK H (upd (upd H Ls (.lst ((ls ++ [a]).map V.ref))) s (.ins CS ds (stF (.ref tp) (.ref R) (.ref Hs) (.ref Ls) (.int (σ.nm + 1)) (.int σ.nr) (.int σ.lw) (.int σ.ag)))) := fun b xs e => k _ _ (fun hb => by
    simp only [List.mem_cons, List.not_mem_nil, or_false] at hb
    rcases hb with w | w
    · rw [w, st.fs] at e; cases e
    · rw [w, st.fl] at e; cases e) e
  refine ⟨e1, ⟨upd_same, tk _ _ st.ft, ?_, st.fru.tk tk, ?_, st.fhs.farL k tk fun b hb hz => ?_, (upd_ne (Ne.symm sL)).trans upd_same, (st.fla.tk tk).snoc (tk _ _ ea) (el.tk tk), st.fnd⟩, k⟩
  · exact k _ _ (by simp only [List.mem_cons, List.not_mem_nil, or_false, not_or]; exact ⟨Ne.symm sR, RL⟩) st.fr
  · exact k _ _ (by simp only [List.mem_cons, List.not_mem_nil, or_false, not_or]; exact ⟨Ne.symm sH, HL⟩) st.fh
  · refine nd.2.2 b ?_ b hb rfl
    simp only [List.mem_cons, List.not_mem_nil, or_false] at hz ⊢
    rcases hz with w | w
    · exact .inl w
    · exact .inr (.inr (.inr w))
def spSend (CS C : Addr) : Sp := fun vs H Q _ => ∃ (s p : Addr) (to : Int) (own : List Addr) (σ : Sta) (l : Lt), vs = [.ref s, .int to, .ref p] ∧ StX CS C H s own σ ∧ LetAt H p l ∧ σ.letters.length ≤ 900 ∧ ∀ H', ButL own H H' → StX CS C H' s own (sendS σ to l) → Q (.int σ.nm) H'
section
variable {P : Program} {w : World} {K : PySem.W.Frag} {mg : Str → Option Value} {base : Heap}
abbrev a_send : Stmt := topS 49
abbrev n_send : List Str := ["state", "to", "letter", "mark"]
theorem sc_send : FnScope n_send ["state", "to", "letter"] (defScope a_send) := ⟨rfl, rfl, rfl, by decide +kernel, rfl, by decide +kernel, by decide +kernel⟩
set_option maxHeartbeats 8000000 in
theorem ok_send {f  : Addr} {fd  : FuncData} {k : Nat} {CS C : Addr} (F : Fun K "send" "send" a_send f fd)  (XS : StateTxt K CS)  : FnOk P w K mg base CX0 (k + 1) f fd ["state", "to", "letter"] (spSend CS C) := by
  refine F.ok sc_send (fun vs H Q E h => ?_) (fun cdv A outer s H vs Q E hr h => ?_)
  · obtain ⟨s, p, to, own, σ, l, rfl, _⟩ := h
    rfl
  · obtain ⟨s, p, to, own, σ, l, rfl, hs, el, l9, q⟩ := h
    refine ⟨_, (pss_cons (ps_set (i := 3) sc_send.nd rfl (.inl rfl) (pe_fld (pv 0) rfl))
      (pss_cons (ps_expr (pe_bm PySem.F.plainAttrs_list PySem.F.slot_list_append PySem.F.type_list_append mt_append (pe_fld (pv 0) rfl) (pa_cons (pe_tup (pa_cons (pv 3) (pa_cons (pv 1) (pa_cons (pv 2) pa_nil)))) pa_nil)))
      (pss_cons (ps_fld (pv 0) (pe_op op_add (pv 3) pe_int) rfl)
      (pss_one (ps_ret (pv 3)))))), ?_⟩
    obtain ⟨ds, tp, R, Hs, Ls, zs, rs, ls, eo, st⟩ := hs
    refine ⟨.ref s, rfl, s, CS, ds, _, _, rfl, st.fs, XS.cl, XS.n5, sk5, .ref s, rfl, s, CS, ds, _, _, rfl, st.fs, XS.cl, XS.n4, sk4, .inl ⟨rfl, _, .inl (.inl st.fl)⟩, .int σ.nm, rfl, .int to, rfl, .ref p, rfl, (show 3 ≤ sizeLine by decide), fun a na => ?_⟩
    have s1 := same_new (o := HO.tup [V.int σ.nm, .int to, .ref p]) na
    have ea : (upd H a (HO.tup [V.int σ.nm, .int to, .ref p])) a = some (.tup [.int σ.nm, .int to, .ref p]) := upd_same
    have st1 := st.same s1
    have el1 := el.tk (tk_same s1)
    generalize upd H a (HO.tup [V.int σ.nm, .int to, .ref p]) = H1 at s1 ea st1 el1 ⊢
    have lll : (ls.map V.ref).length < sizeLine := by
      rw [List.length_map]
      have := st.fla.1
      exact small1000 (by omega)
    refine ⟨Ls, _, _, rfl, rfl, st1.fl, lll, ?_⟩
    obtain ⟨e5, st5, b5⟩ := st1.letter ea el1
    rw [List.map_append] at e5 st5 b5
    refine ⟨.int σ.nm, rfl, σ.nm, 1, rfl, rfl, .ref s, rfl, s, CS, ds, _, rfl, e5, XS.cl, XS.n5, (show 8 < 1000 by decide), ?_⟩
    rw [sp5]
    exact ⟨.int σ.nm, rfl, q _ ((ButL.of s1).trans (b5.mono fun b hb => by rw [eo]; exact List.mem_append_left _ (by simp only [List.mem_cons, List.not_mem_nil, or_false] at hb ⊢; rcases hb with w | w <;> simp [w]))) ⟨ds, tp, R, Hs, Ls, zs, rs, ls ++ [a], eo, st5⟩⟩
end

/-! ### letters more -/
def RowsAt (H : Hp) (as : List Addr) (rows : List (Int × Lt)) : Prop := as.length = rows.length ∧ ∀ (i : Nat) a r, as[i]? = some a → rows[i]? = some r → ∃ p, H a = some (.tup [.int r.1, .ref p]) ∧ LetAt H p r.2
theorem RowsAt.tk {H H' : Hp} {as : List Addr} {rows : List (Int × Lt)} (a : RowsAt H as rows) (k : TupK H H') : RowsAt H' as rows := ⟨a.1, fun i z r h1 h2 => by
  obtain ⟨p, e1, e2⟩ := a.2 i z r h1 h2
  exact ⟨p, k _ _ e1, e2.tk k⟩⟩
def sendsS (σ : Sta) (rows : List (Int × Lt)) : Sta := rows.foldl (fun σ r => sendS σ r.1 r.2) σ
theorem sendsS_len (σ : Sta) (rows : List (Int × Lt)) : (sendsS σ rows).letters.length = σ.letters.length + rows.length := by
  unfold sendsS
  induction rows generalizing σ with
  | nil => rfl
  | cons r rows ih =>
    rw [List.foldl_cons, ih]
    unfold sendS
    simp only [List.length_append, List.length_cons, List.length_nil]
    omega
theorem sendsS_snoc (σ : Sta) (rows : List (Int × Lt)) (r : Int × Lt) : sendsS σ (rows ++ [r]) = sendS (sendsS σ rows) r.1 r.2 := by
  unfold sendsS
  rw [List.foldl_append]
  rfl
/-- what stays when a state's own objects change: what is in tuples -/
theorem StX.tk {CS C : Addr} {H H' : Hp} {s : Addr} {own : List Addr} {σ : Sta} (a : StX CS C H s own σ) (k : ButL own H H') : TupK H H' := fun b xs e => k _ _ (fun hb => by
  obtain ⟨ds, tp, R, Hs, Ls, zs, rs, ls, rfl, st⟩ := a
  rcases List.mem_append.mp hb with w | w
  · simp only [List.mem_cons, List.not_mem_nil, or_false] at w
    rcases w with w | w | w | w
    · rw [w, st.fs] at e; cases e
    · rw [w, st.fr] at e; cases e
    · rw [w, st.fh] at e; cases e
    · rw [w, st.fl] at e; cases e
  · obtain ⟨z, hz, hb⟩ := List.mem_flatMap.mp w
    obtain ⟨i, ei⟩ := List.getElem?_of_mem hz
    obtain ⟨h, _, ⟨dx, v, hs, e0, _, _, t0, _⟩, kvs, u0⟩ := st.fhs.get ei
    have e0' : H z.1 = some (.ins C dx [("thing", .int (h.thing : Int)), ("place", .int h.place), ("wish", v), ("held", .ref z.2.1), ("tally", .ref z.2.2)]) := e0
    simp only [hAs, List.mem_cons, List.not_mem_nil, or_false] at hb
    rcases hb with w | w | w
    · rw [w, e0'] at e; cases e
    · rw [w, u0] at e; cases e
    · rw [w, t0] at e; cases e) e
def spSendAll (CS C : Addr) : Sp := fun vs H Q _ => ∃ (s w : Addr) (own : List Addr) (σ : Sta) (as : List Addr) (rows : List (Int × Lt)), vs = [.ref s, .ref w] ∧ StX CS C H s own σ ∧ w ∉ own ∧ H w = some (.lst (as.map V.ref)) ∧ RowsAt H as rows ∧ σ.letters.length + rows.length ≤ 900 ∧ ∀ H', ButL own H H' → StX CS C H' s own (sendsS σ rows) → Q (.int (rows.length : Int)) H'
section
variable {P : Program} {w : World} {K : PySem.W.Frag} {mg : Str → Option Value} {base : Heap}
abbrev a_send_all : Stmt := topS 50
abbrev n_send_all : List Str := ["state", "rows", "to", "letter"]
theorem sc_send_all : FnScope n_send_all ["state", "rows"] (defScope a_send_all) := ⟨rfl, rfl, rfl, by decide +kernel, rfl, by decide +kernel, by decide +kernel⟩
set_option maxHeartbeats 8000000 in
theorem ok_send_all {f fSe : Addr} {fd fdSe : FuncData} {k : Nat} {CS C : Addr} (F : Fun K "send_all" "send_all" a_send_all f fd) (Se : Kn P w K mg base 1 "send" ["state", "to", "letter"] (spSend CS C) fSe fdSe)  (m_len : mg "len" = none) : FnOk P w K mg base CX0 (k + 2) f fd ["state", "rows"] (spSendAll CS C) := by
  refine F.ok sc_send_all (fun vs H Q E h => ?_) (fun cdv A outer s H vs Q E hr h => ?_)
  · obtain ⟨s, w, own, σ, as, rows, rfl, _⟩ := h
    rfl
  · obtain ⟨s, w, own, σ, as, rows, rfl, hs, nw, ew, rA, l9, q⟩ := h
    refine ⟨_, (pss_cons (ps_for PassesOwn.never rfl (pi_list (pv 1)) (pg_tup rfl (pgs_cons (pg_name (i := 2) sc_send_all.nd rfl (.inl rfl)) (pgs_cons (pg_name (i := 3) sc_send_all.nd rfl (.inl rfl)) pgs_nil)))
        (pss_one (ps_expr (pe_kn Se hr (by omega) (pa_cons (pv 0) (pa_cons (pv 2) (pa_cons (pv 3) pa_nil)))))))
      (pss_one (ps_ret (pe_callB call_len_seq (by rfl) m_len (by decide +kernel) (pa_cons (pv 1) pa_nil))))), ?_⟩
    refine ⟨.ref w, rfl, w, rfl, ⟨_, .inl (.inl ew)⟩, for_it (walk_list (xs := as.map V.ref)) (fun i σ' H' => (∃ u2 u3, σ' = [some (.ref s), some (.ref w), u2, u3]) ∧ StX CS C H' s own (sendsS σ (rows.take i)) ∧ ButL own H H')
      ⟨⟨none, none, rfl⟩, hs, ButL.refl⟩ (fun i σ' H' _ p => .inl (.inl (p.2.2 _ _ nw ew))) (fun i v σ' H4 H4' hi p yy => ?_) (fun σ' H4 p => ?_)⟩
    · obtain ⟨⟨u2, u3, rfl⟩, st4, b4⟩ := p
      obtain ⟨rfl, gv⟩ := yy
      obtain ⟨a, ea, rfl⟩ := mapGet gv
      have il : i < rows.length := by rw [← rA.1]; simpa using hi
      have er : rows[i]? = some rows[i] := List.getElem?_eq_getElem il
      generalize rows[i] = rw0 at er
      have tk4 := hs.tk b4
      obtain ⟨p, e1, e2⟩ := (rA.tk tk4).2 i a rw0 ea er
      refine ⟨a, _, rfl, .inl (.inl e1), rfl, _, _, rfl, _, _, rfl, rfl, .ref s, rfl, .int rw0.1, rfl, .ref p, rfl, s, p, rw0.1, own, _, rw0.2, rfl, st4, e2, ?_, fun H5 b5 st5 => ⟨⟨_, _, rfl⟩, ?_, b4.trans b5⟩⟩
      · rw [sendsS_len, List.length_take]
        omega
      · rw [List.take_add_one, er]
        show StX CS C H5 s own (sendsS σ (rows.take i ++ [rw0]))
        rw [sendsS_snoc]
        exact st5
    · obtain ⟨⟨u2, u3, rfl⟩, st4, b4⟩ := p
      have tk : rows.take (as.map V.ref).length = rows := List.take_of_length_le (by rw [List.length_map, rA.1]; exact Nat.le_refl _)
      rw [tk] at st4
      refine ⟨.ref w, rfl, w, as.map V.ref, rfl, .inl (.inl (.inl (b4 _ _ nw ew))), ?_⟩
      rw [List.length_map, rA.1]
      exact q _ b4 st4
end
end K66

set_option Elab.async false
set_option linter.all false
set_option maxRecDepth 100000
namespace K66
open PySem PySem.Spec PyProof.Rows L2 NB

/-! ### plans -/
def RulesAt (H : Hp) (R : Addr) (rs : List Rl) : Prop := ∃ as : List Addr, H R = some (.tup (as.map V.ref)) ∧ as.length = rs.length ∧ ∀ (i : Nat) (r : Addr) (q : Rl), as[i]? = some r → rs[i]? = some q → RuleAt H r q
def PlanAt (C : Addr) (H : Hp) (x : Addr) (tops : List Int) (rs : List Rl) : Prop := ∃ dx t R, H x = some (.ins C dx [("tops", .ref t), ("rules", .ref R)]) ∧ H t = some (.tup (tops.map V.int)) ∧ RulesAt H R rs
theorem RulesAt.keep {H H' : Hp} {R : Addr} {rs : List Rl} (h : RulesAt H R rs) (k : Keep H H') : RulesAt H' R rs := by
  obtain ⟨as, e, l, a⟩ := h
  exact ⟨as, k.tup e, l, fun i r q h1 h2 => (a i r q h1 h2).keep k⟩
theorem PlanAt.keep {C : Addr} {H H' : Hp} {x : Addr} {tops : List Int} {rs : List Rl} (h : PlanAt C H x tops rs) (k : Keep H H') : PlanAt C H' x tops rs := by
  obtain ⟨dx, t, R, e, et, er⟩ := h
  exact ⟨dx, t, R, k _ _ (fun _ q => by cases q) e, k.tup et, er.keep k⟩
/-- a side of the plan -/
def SideOk (tops : List Int) (s : Sd) : Prop := ∃ t, tops[s.1]? = some t ∧ 0 ≤ s.2.2 ∧ s.2.2 ≤ t
def RuleOk (tops : List Int) (q : Rl) : Prop := SideOk tops q.1 ∧ SideOk tops q.2

abbrev kWhole : Stmt := topS 13
abbrev kPlace : Stmt := topS 14
abbrev kTops : Stmt := topS 15
abbrev kSide : Stmt := topS 16
abbrev kSides : Stmt := topS 17
abbrev kRule : Stmt := topS 18
abbrev kRules : Stmt := topS 19
abbrev kInit : Stmt := inClass (topS 30) 0
theorem scWhole : FnScope ["thing"] ["thing"] (defScope kWhole) := ⟨rfl, rfl, rfl, by decide +kernel, rfl, by decide +kernel, by decide +kernel⟩
theorem scPlace : FnScope ["top", "thing"] ["top", "thing"] (defScope kPlace) := ⟨rfl, rfl, rfl, by decide +kernel, rfl, by decide +kernel, by decide +kernel⟩
theorem scTops : FnScope ["thing", "top"] ["thing"] (defScope kTops) := ⟨rfl, rfl, rfl, by decide +kernel, rfl, by decide +kernel, by decide +kernel⟩
theorem scSide : FnScope ["tops", "thing", "number", "word", "place"] ["tops", "thing"] (defScope kSide) := ⟨rfl, rfl, rfl, by decide +kernel, rfl, by decide +kernel, by decide +kernel⟩
theorem scSides : FnScope ["tops", "thing", "side"] ["tops", "thing"] (defScope kSides) := ⟨rfl, rfl, rfl, by decide +kernel, rfl, by decide +kernel, by decide +kernel⟩
theorem scRule : FnScope ["tops", "thing"] ["tops", "thing"] (defScope kRule) := ⟨rfl, rfl, rfl, by decide +kernel, rfl, by decide +kernel, by decide +kernel⟩
theorem scRules : FnScope ["tops", "thing", "rule"] ["tops", "thing"] (defScope kRules) := ⟨rfl, rfl, rfl, by decide +kernel, rfl, by decide +kernel, by decide +kernel⟩
theorem scInit : FnScope ["self", "tops", "rules"] ["self", "tops", "rules"] (defScope kInit) := ⟨rfl, rfl, rfl, by decide +kernel, rfl, by decide +kernel, by decide +kernel⟩

section
variable {P : Program} {w : World} {K : PySem.W.Frag} {mg : Str → Option Value} {base : Heap}

def spWhole : Sp := fun vs H Q _ => ∃ i : Int, vs = [.int i] ∧ Q (.bl true) H
theorem ok_whole {f : Addr} {fd : FuncData} {k : Nat} (F : Fun K "is_whole" "is_whole" kWhole f fd) (ms : mg "isinstance" = none) (mi : mg "int" = none) (mb : mg "bool" = none) : FnOk P w K mg base CX0 (k + 1) f fd ["thing"] spWhole := by
  refine F.ok scWhole (fun vs H Q E h => ?_) (fun cdv A outer s H vs Q E hr h => ?_)
  · obtain ⟨i, rfl, _⟩ := h
    rfl
  · obtain ⟨i, rfl, q⟩ := h
    refine ⟨_, pss_one (ps_ret (pe_and (pe_callB call_isi (by rfl) ms (by decide +kernel) (pa_cons (pv 0) (pa_cons (pe_bltn (v := .ty "int") (u := .type "int") (by rfl) mi (by decide +kernel) rfl) pa_nil)))
      (pe_one (pe_not (pe_callB call_isi (by rfl) ms (by decide +kernel) (pa_cons (pv 0) (pa_cons (pe_bltn (v := .ty "bool") (u := .type "bool") (by rfl) mb (by decide +kernel) rfl) pa_nil))))))), ?_⟩
    refine ⟨.int i, rfl, _, _, _, _, true, rfl, .ty "int", .base (.int i), kit_ty (by decide +kernel), true, rfl, iteT ?_⟩
    exact ⟨.int i, rfl, _, _, _, _, false, rfl, .ty "bool", .base (.int i), kit_ty (by decide +kernel), false, rfl, q⟩

def spPlace : Sp := fun vs H Q _ => ∃ t i : Int, vs = [.int t, .int i] ∧ Q (.bl (decide (0 ≤ i) && decide (i ≤ t))) H
theorem ok_place {f fW : Addr} {fd fdW : FuncData} {k : Nat} (F : Fun K "is_place" "is_place" kPlace f fd) (W : Kn P w K mg base 1 "is_whole" ["thing"] spWhole fW fdW) : FnOk P w K mg base CX0 (k + 2) f fd ["top", "thing"] spPlace := by
  refine F.ok scPlace (fun vs H Q E h => ?_) (fun cdv A outer s H vs Q E hr h => ?_)
  · obtain ⟨t, i, rfl, _⟩ := h
    rfl
  · obtain ⟨t, i, rfl, q⟩ := h
    refine ⟨_, pss_one (ps_ret (pe_and (pe_kn W hr (by omega) (pa_cons (pv 1) pa_nil)) (pe_one (pe_chain op_le op_le pe_int (pv 1) (pv 0))))), ?_⟩
    refine ⟨.int i, rfl, i, rfl, true, rfl, iteT ?_⟩
    refine ⟨.int i, rfl, 0, i, rfl, rfl, _, rfl, ite2 (fun c => ?_) (fun c => ?_)⟩
    · rw [show decide (0 ≤ i) = true from c, Bool.true_and] at q
      exact ⟨.int t, rfl, i, t, rfl, rfl, q⟩
    · rw [Bool.eq_false_iff.mpr c, Bool.false_and] at q
      exact q

def spTops (K : PySem.W.Frag) : Sp := fun vs H Q _ => ∃ (a : Addr) (tops : List Int), vs = [.ref a] ∧ H a = some (.tup (tops.map V.int)) ∧ 1 ≤ tops.length ∧ tops.length ≤ 12 ∧ Pl tops ∧ ∀ H', Same H H' → Q (.bl true) H'
theorem ok_tops {f fP : Addr} {fd fdP : FuncData} {k : Nat} {t1 t2 : Tok} (F : Fun K "are_tops" "are_tops" kTops f fd) (Pc : Kn P w K mg base 2 "is_place" ["top", "thing"] spPlace fP fdP) (ms : mg "isinstance" = none) (mt : mg "tuple" = none) (ml : mg "len" = none) (ma : mg "all" = none)
    (g1 : mg "MOST_THINGS" = some (.int 12 t1)) (g2 : mg "BEYOND_THIRTY_FIGURES" = some (.int 1000000000000000000000000000000 t2)) : FnOk P w K mg base CX0 (k + 3) f fd ["thing"] (spTops K) := by
  refine F.ok scTops (fun vs H Q E h => ?_) (fun cdv A outer s H vs Q E hr h => ?_)
  · obtain ⟨a, tops, rfl, _⟩ := h
    rfl
  · obtain ⟨a, tops, rfl, ea, l1, l12, pl, q⟩ := h
    refine ⟨_, pss_cons (ps_if (PW.pt (pw_or (pt_not (pt_val (pe_callB call_isi (by rfl) ms (by decide +kernel) (pa_cons (pv 0) (pa_cons (pe_bltn (v := .ty "tuple") (u := .type "tuple") (by rfl) mt (by decide +kernel) rfl) pa_nil)))))
        (pw_or1 (pt_not (pt_chain op_le op_le pe_int (pe_callB call_len_seq (by rfl) ml PySem.boot_len (pa_cons (pv 0) pa_nil)) (pe_glob (v := .int 12) rfl g1 ⟨_, rfl⟩)))))) (pss_one (ps_ret pe_bl)) pss_nil)
      (pss_one (ps_ret (pe_callB (cr_all rfl) (by rfl) ma (by decide +kernel) (pa_cons
        (pe_lc (own := [("top", 1)]) (g := gName 1) (tt := tYes) (te := tCall spPlace [] E0 (tCons (tOp (rI0 fun i j => .int (i - j)) (tC (.int 1000000000000000000000000000000)) (tC (.int 1))) (tCons (tVar 1) tNil))) rfl scTops.nd (pi_tup (pv 0)) (blkOk_by (N := ["thing", "top"]) (sc := defScope kTops) (by decide +kernel))
          (fun _ _ _ _ _ => pg_name (i := 1) scTops.nd rfl (.inl rfl) (hf := .inr rfl)) (fun _ _ _ _ _ => pts_nil)
          (fun _ _ _ _ _ => pe_kn Pc hr (by omega) (pa_cons (pe_op op_sub (pe_glob (v := .int 1000000000000000000000000000000) rfl g2 ⟨_, rfl⟩) pe_int) (pa_cons (pv 1) pa_nil)))) pa_nil)))), ?_⟩
    refine ⟨.ref a, rfl, _, _, _, _, true, rfl, .ty "tuple", .base (.tup ea), kit_ty (by decide +kernel), true, rfl, iteF ?_⟩
    refine ⟨.ref a, rfl, a, _, rfl, .inr (.inl (.inl ea)), 1, _, rfl, rfl, true, ?_, iteT ⟨_, 12, rfl, rfl, true, ?_, iteF ?_⟩⟩
    · rw [List.length_map]
      exact congrArg V.bl (decide_eq_true (by omega))
    · rw [List.length_map]
      exact congrArg V.bl (decide_eq_true (by omega))
    refine ⟨.ref a, rfl, a, rfl, ⟨_, .inl (.inl ea)⟩, fun D nD => lc_it (walk_tup (xs := tops.map V.int)) (fun i H' => Same H H' ∧ H' D = some (.lst ((List.replicate i true).map V.bl))) ⟨same_new nD, upd_same⟩ (fun i H' _ p => .inl (.inl (p.1 _ _ ea))) (fun i v H1 H2 hi p y => ?_) (fun H' p => ?_)⟩
    · obtain ⟨sm, eD⟩ := p
      obtain ⟨rfl, gv⟩ := y
      obtain ⟨x, ex, rfl⟩ := mapGet gv
      have hx := pl x (List.mem_of_getElem? ex)
      have hi' : i < tops.length := by simpa using hi
      refine ⟨rfl, _, _, rfl, rfl, .int x, rfl, _, x, rfl, _, eD, by rw [List.length_map, List.length_replicate]; exact small1000 (by omega), same_over sm nD, ?_⟩
      rw [upd_same, decide_eq_true hx.1, decide_eq_true (show x ≤ 1000000000000000000000000000000 - 1 by have := hx.2; omega), List.replicate_succ', List.map_append]
      rfl
    · obtain ⟨sm, eD⟩ := p
      refine ⟨D, _, rfl, .inl (.inl eD), ?_⟩
      rw [show (List.replicate (tops.map V.int).length true).all id = true by simp]
      exact q H' sm

def spSide (K : PySem.W.Frag) : Sp := fun vs H Q _ => ∃ (t p : Addr) (tops : List Int) (sd : Sd), vs = [.ref t, .ref p] ∧ H t = some (.tup (tops.map V.int)) ∧ SideAt H p sd ∧ SideOk tops sd ∧ Q (.bl true) H
theorem ok_side {f fP wa : Addr} {fd fdP : FuncData} {k : Nat} (F : Fun K "is_side_of" "is_side_of" kSide f fd) (Pc : Kn P w K mg base 2 "is_place" ["top", "thing"] spPlace fP fdP) (ms : mg "isinstance" = none) (mt : mg "tuple" = none) (ml : mg "len" = none) (mr : mg "str" = none)
    (g1 : mg "WORDS" = some (.ref wa)) (hW : ∀ H, SqT K H wa [.str "from", .str "to"]) : FnOk P w K mg base CX0 (k + 3) f fd ["tops", "thing"] (spSide K) := by
  refine F.ok scSide (fun vs H Q E h => ?_) (fun cdv A outer s H vs Q E hr h => ?_)
  · obtain ⟨t, p, tops, sd, rfl, _⟩ := h
    rfl
  · obtain ⟨t, p, tops, ⟨n, b, pl⟩, rfl, et, ep, ⟨tp, eg, p0, p1⟩, q⟩ := h
    have ep' : H p = some (.tup [.int (n : Int), .str (word b), .int pl]) := ep
    have hn : n < tops.length := (List.getElem?_eq_some_iff.mp eg).1
    refine ⟨_, pss_cons (ps_if (PW.pt (pw_or (pt_not (pt_val (pe_callB call_isi (by rfl) ms (by decide +kernel) (pa_cons (pv 1) (pa_cons (pe_bltn (v := .ty "tuple") (u := .type "tuple") (by rfl) mt (by decide +kernel) rfl) pa_nil)))))
        (pw_or1 (pt_cmpR op_ne (pe_callB call_len_seq (by rfl) ml PySem.boot_len (pa_cons (pv 1) pa_nil)) pe_int (nomark _))))) (pss_one (ps_ret pe_bl)) pss_nil)
      (pss_cons (ps_asg (pv 1) (pg_tup (by rfl) (pgs_cons (pg_name (i := 2) scSide.nd rfl (.inl rfl)) (pgs_cons (pg_name (i := 3) scSide.nd rfl (.inl rfl)) (pgs_cons (pg_name (i := 4) scSide.nd rfl (.inl rfl)) pgs_nil)))))
      (pss_cons (ps_if (pt_not (pt_val (pe_kn Pc hr (by omega) (pa_cons (pe_op op_sub (pe_callB call_len_seq (by rfl) ml PySem.boot_len (pa_cons (pv 0) pa_nil)) pe_int) (pa_cons (pv 2) pa_nil))))) (pss_one (ps_ret pe_bl)) pss_nil)
      (pss_one (ps_ret (pe_and (pe_callB call_isi (by rfl) ms (by decide +kernel) (pa_cons (pv 3) (pa_cons (pe_bltn (v := .ty "str") (u := .type "str") (by rfl) mr (by decide +kernel) rfl) pa_nil)))
        (pe_and (pe_cmpR op_in_seq (pv 3) (pe_glob (v := .ref wa) rfl g1 rfl) (by rfl)) (pe_one (pe_kn Pc hr (by omega) (pa_cons (pe_ix ix_tup (pv 0) (pv 2) (fun _ _ => rfl)) (pa_cons (pv 4) pa_nil)))))))))), ?_⟩
    refine ⟨.ref p, rfl, _, _, _, _, true, rfl, .ty "tuple", .base (.tup ep'), kit_ty (by decide +kernel), true, rfl, iteF ?_⟩
    refine ⟨.ref p, rfl, p, _, rfl, .inr (.inl (.inl ep')), rfl, _, rfl, iteNS rfl ?_⟩
    refine ⟨.ref p, rfl, p, _, rfl, .inl (.inl ep'), rfl, _, _, rfl, _, _, rfl, _, _, rfl, rfl, ?_⟩
    refine ⟨.ref t, rfl, t, _, rfl, .inr (.inl (.inl et)), _, 1, rfl, rfl, .int n, rfl, _, n, rfl, true, ?_, iteF ?_⟩
    · rw [List.length_map, decide_eq_true (show (0 : Int) ≤ n by omega), decide_eq_true (show (n : Int) ≤ tops.length - 1 by omega)]
      rfl
    refine ⟨_, rfl, _, _, _, _, true, rfl, .ty "str", .base (.str _), kit_ty (by decide +kernel), true, rfl, iteT ?_⟩
    refine ⟨_, rfl, wa, _, rfl, .inr (hW H), rfl, by decide +kernel, true, ?_, iteT ?_⟩
    · rw [word_in]
      rfl
    refine ⟨.ref t, rfl, .int n, rfl, t, _, n, .int tp, rfl, rfl, .inl (.inl et), atI_nat (by rw [List.getElem?_map, eg]; rfl), .int pl, rfl, tp, pl, rfl, ?_⟩
    rw [decide_eq_true p0, decide_eq_true p1]
    exact q

/-- a run of truths that a comprehension makes -/
theorem all_true (n : Nat) : (List.replicate n true).all id = true := by simp
theorem more_true (n : Nat) : (List.replicate (n + 1) true).map V.bl = (List.replicate n true).map V.bl ++ [V.bl true] := by
  rw [List.replicate_succ', List.map_append]
  rfl

def spSides (K : PySem.W.Frag) : Sp := fun vs H Q _ => ∃ (t r : Addr) (tops : List Int) (as : List Addr), vs = [.ref t, .ref r] ∧ H t = some (.tup (tops.map V.int)) ∧ H r = some (.tup (as.map V.ref)) ∧ as.length ≤ 100 ∧ (∀ p ∈ as, ∃ sd, SideAt H p sd ∧ SideOk tops sd) ∧ ∀ H', Same H H' → Q (.bl true) H'
theorem ok_sides {f fP : Addr} {fd fdP : FuncData} {k : Nat} (F : Fun K "are_sides_of" "are_sides_of" kSides f fd) (Si : Kn P w K mg base 3 "is_side_of" ["tops", "thing"] (spSide K) fP fdP) (ms : mg "isinstance" = none) (mt : mg "tuple" = none) (ma : mg "all" = none) : FnOk P w K mg base CX0 (k + 4) f fd ["tops", "thing"] (spSides K) := by
  refine F.ok scSides (fun vs H Q E h => ?_) (fun cdv A outer s H vs Q E hr h => ?_)
  · obtain ⟨t, r, tops, as, rfl, _⟩ := h
    rfl
  · obtain ⟨t, r, tops, as, rfl, et, er, l, ok, q⟩ := h
    refine ⟨_, pss_one (ps_ret (pe_and (pe_callB call_isi (by rfl) ms (by decide +kernel) (pa_cons (pv 1) (pa_cons (pe_bltn (v := .ty "tuple") (u := .type "tuple") (by rfl) mt (by decide +kernel) rfl) pa_nil)))
      (pe_one (pe_callB (cr_all rfl) (by rfl) ma (by decide +kernel) (pa_cons
        (pe_lc (own := [("side", 2)]) (g := gName 2) (tt := tYes) (te := tCall (spSide K) [] E0 (tCons (tVar 0) (tCons (tVar 2) tNil))) rfl scSides.nd (pi_tup (pv 1)) (blkOk_by (N := ["tops", "thing", "side"]) (sc := defScope kSides) (by decide +kernel))
          (fun _ _ _ _ _ => pg_name (i := 2) scSides.nd rfl (.inl rfl) (hf := .inr rfl)) (fun _ _ _ _ _ => pts_nil)
          (fun _ _ _ _ _ => pe_kn Si hr (by omega) (pa_cons (pv 0) (pa_cons (pv 2) pa_nil)))) pa_nil))))), ?_⟩
    refine ⟨.ref r, rfl, _, _, _, _, true, rfl, .ty "tuple", .base (.tup er), kit_ty (by decide +kernel), true, rfl, iteT ?_⟩
    refine ⟨.ref r, rfl, r, rfl, ⟨_, .inl (.inl er)⟩, fun D nD => lc_it (walk_tup (xs := as.map V.ref)) (fun i H' => Same H H' ∧ H' D = some (.lst ((List.replicate i true).map V.bl))) ⟨same_new nD, upd_same⟩ (fun i H' _ p => .inl (.inl (p.1 _ _ er))) (fun i v H1 H2 hi p y => ?_) (fun H' p => ?_)⟩
    · obtain ⟨sm, eD⟩ := p
      obtain ⟨rfl, gv⟩ := y
      obtain ⟨x, ex, rfl⟩ := mapGet gv
      have hi' : i < as.length := by simpa using hi
      obtain ⟨sd, a1, a2⟩ := ok x (List.mem_of_getElem? ex)
      refine ⟨rfl, .ref t, rfl, .ref x, rfl, t, x, tops, sd, rfl, sm _ _ et, a1.keep (.same sm), a2, _, eD, by rw [List.length_map, List.length_replicate]; exact small1000 (by omega), same_over sm nD, ?_⟩
      rw [upd_same, more_true]
    · obtain ⟨sm, eD⟩ := p
      refine ⟨D, _, rfl, .inl (.inl eD), ?_⟩
      rw [all_true]
      exact q H' sm

def spRule (K : PySem.W.Frag) : Sp := fun vs H Q _ => ∃ (t r : Addr) (tops : List Int) (rl : Rl), vs = [.ref t, .ref r] ∧ H t = some (.tup (tops.map V.int)) ∧ RuleAt H r rl ∧ RuleOk tops rl ∧ ∀ H', Same H H' → Q (.bl true) H'
theorem ok_rule {f fP : Addr} {fd fdP : FuncData} {k : Nat} (F : Fun K "is_rule_of" "is_rule_of" kRule f fd) (Ss : Kn P w K mg base 4 "are_sides_of" ["tops", "thing"] (spSides K) fP fdP) (ml : mg "len" = none) : FnOk P w K mg base CX0 (k + 5) f fd ["tops", "thing"] (spRule K) := by
  refine F.ok scRule (fun vs H Q E h => ?_) (fun cdv A outer s H vs Q E hr h => ?_)
  · obtain ⟨t, r, tops, rl, rfl, _⟩ := h
    rfl
  · obtain ⟨t, r, tops, rl, rfl, et, ⟨p1, p2, er, h1, h2⟩, ok, q⟩ := h
    refine ⟨_, pss_one (ps_ret (pe_and (pe_kn Ss hr (by omega) (pa_cons (pv 0) (pa_cons (pv 1) pa_nil))) (pe_one (pe_cmpR op_eq (pe_callB call_len_seq (by rfl) ml PySem.boot_len (pa_cons (pv 1) pa_nil)) pe_int (nomark _))))), ?_⟩
    refine ⟨.ref t, rfl, .ref r, rfl, t, r, tops, [p1, p2], rfl, et, er, (show 2 ≤ 100 by decide), fun p hp => ?_, fun H' sm => ⟨true, rfl, iteT ?_⟩⟩
    · simp only [List.mem_cons, List.not_mem_nil, or_false] at hp
      rcases hp with e | e <;> rw [e]
      · exact ⟨_, h1, ok.1⟩
      · exact ⟨_, h2, ok.2⟩
    · exact ⟨.ref r, rfl, r, _, rfl, .inr (.inl (.inl (sm _ _ er))), rfl, q H' sm⟩

def spRules (K : PySem.W.Frag) : Sp := fun vs H Q _ => ∃ (t R : Addr) (tops : List Int) (rs : List Rl), vs = [.ref t, .ref R] ∧ H t = some (.tup (tops.map V.int)) ∧ RulesAt H R rs ∧ rs.length ≤ 40 ∧ (∀ q ∈ rs, RuleOk tops q) ∧ ∀ H', Same H H' → Q (.bl true) H'
theorem ok_rules {f fP : Addr} {fd fdP : FuncData} {k : Nat} {t1 : Tok} (F : Fun K "are_rules_of" "are_rules_of" kRules f fd) (Ru : Kn P w K mg base 5 "is_rule_of" ["tops", "thing"] (spRule K) fP fdP) (ms : mg "isinstance" = none) (mt : mg "tuple" = none) (ml : mg "len" = none) (ma : mg "all" = none)
    (g1 : mg "MOST_RULES" = some (.int 40 t1)) : FnOk P w K mg base CX0 (k + 6) f fd ["tops", "thing"] (spRules K) := by
  refine F.ok scRules (fun vs H Q E h => ?_) (fun cdv A outer s H vs Q E hr h => ?_)
  · obtain ⟨t, R, tops, rs, rfl, _⟩ := h
    rfl
  · obtain ⟨t, R, tops, rs, rfl, et, ⟨as, eR, la, ha⟩, l40, ok, q⟩ := h
    refine ⟨_, pss_cons (ps_if (PW.pt (pw_or (pt_not (pt_val (pe_callB call_isi (by rfl) ms (by decide +kernel) (pa_cons (pv 1) (pa_cons (pe_bltn (v := .ty "tuple") (u := .type "tuple") (by rfl) mt (by decide +kernel) rfl) pa_nil)))))
        (pw_or1 (pt_cmpR op_gt (pe_callB call_len_seq (by rfl) ml PySem.boot_len (pa_cons (pv 1) pa_nil)) (pe_glob (v := .int 40) rfl g1 ⟨_, rfl⟩) (nomark _))))) (pss_one (ps_ret pe_bl)) pss_nil)
      (pss_one (ps_ret (pe_callB (cr_all rfl) (by rfl) ma (by decide +kernel) (pa_cons
        (pe_lc (own := [("rule", 2)]) (g := gName 2) (tt := tYes) (te := tCall (spRule K) [] E0 (tCons (tVar 0) (tCons (tVar 2) tNil))) rfl scRules.nd (pi_tup (pv 1)) (blkOk_by (N := ["tops", "thing", "rule"]) (sc := defScope kRules) (by decide +kernel))
          (fun _ _ _ _ _ => pg_name (i := 2) scRules.nd rfl (.inl rfl) (hf := .inr rfl)) (fun _ _ _ _ _ => pts_nil)
          (fun _ _ _ _ _ => pe_kn Ru hr (by omega) (pa_cons (pv 0) (pa_cons (pv 2) pa_nil)))) pa_nil)))), ?_⟩
    refine ⟨.ref R, rfl, _, _, _, _, true, rfl, .ty "tuple", .base (.tup eR), kit_ty (by decide +kernel), true, rfl, iteF ?_⟩
    refine ⟨.ref R, rfl, R, _, rfl, .inr (.inl (.inl eR)), _, 40, rfl, rfl, false, ?_, iteF ?_⟩
    · rw [List.length_map]
      exact congrArg V.bl (decide_eq_false (by omega))
    refine ⟨.ref R, rfl, R, rfl, ⟨_, .inl (.inl eR)⟩, fun D nD => lc_it (walk_tup (xs := as.map V.ref)) (fun i H' => Same H H' ∧ H' D = some (.lst ((List.replicate i true).map V.bl))) ⟨same_new nD, upd_same⟩ (fun i H' _ p => .inl (.inl (p.1 _ _ eR))) (fun i v H1 H2 hi p y => ?_) (fun H' p => ?_)⟩
    · obtain ⟨sm, eD⟩ := p
      obtain ⟨rfl, gv⟩ := y
      obtain ⟨x, ex, rfl⟩ := mapGet gv
      have hi' : i < as.length := by simpa using hi
      have hr' : i < rs.length := by omega
      have eq : rs[i]? = some rs[i] := List.getElem?_eq_getElem hr'
      refine ⟨rfl, .ref t, rfl, .ref x, rfl, t, x, tops, rs[i], rfl, sm _ _ et, (ha i x _ ex eq).keep (.same sm), ok _ (List.getElem_mem hr'), fun H3 s3 => ?_⟩
      have sm3 := sm.trans s3
      refine ⟨_, s3 _ _ eD, by rw [List.length_map, List.length_replicate]; exact small1000 (by omega), same_over sm3 nD, ?_⟩
      rw [upd_same, more_true]
    · obtain ⟨sm, eD⟩ := p
      refine ⟨D, _, rfl, .inl (.inl eD), ?_⟩
      rw [all_true]
      exact q H' sm

/-- what is asked of the class as the top has made it -/
structure PlanTxt (K : PySem.W.Frag) (mg : Str → Option Value) (C : Addr) : Prop where
  cl : Cls K C
  nT : NoAttr K C "tops"
  nR : NoAttr K C "rules"
  mgC : mg "Plan" = some (.ref C)
theorem put_two (t R : Addr) : putF "rules" (V.ref R) (putF "tops" (V.ref t) []) = ([("tops", V.ref t), ("rules", V.ref R)] : List (Str × V)) := by
  have n : ¬ (("tops" : Str) = "rules") := by decide +kernel
  show (if ("tops" : Str) = "rules" then [(("tops" : Str), V.ref R)] else (("tops" : Str), V.ref t) :: putF "rules" (V.ref R) []) = _
  rw [if_neg n]
  rfl
def spInit (C : Addr) : Sp := fun vs H Q _ => ∃ (x dx t R : Addr) (tops : List Int) (rs : List Rl), vs = [.ref x, .ref t, .ref R] ∧ H x = some (.ins C dx []) ∧ H t = some (.tup (tops.map V.int)) ∧ RulesAt H R rs ∧ 1 ≤ tops.length ∧ tops.length ≤ 12 ∧ Pl tops ∧ rs.length ≤ 40 ∧ (∀ q ∈ rs, RuleOk tops q) ∧
  ∀ H', (∀ b o, b ≠ x → H b = some o → H' b = some o) → H' x = some (.ins C dx [("tops", .ref t), ("rules", .ref R)]) → Q .non H'
theorem ok_init {f C fT fR : Addr} {fd fdT fdR : FuncData} {k : Nat} {dvs : List V} {kws : List (Str × V)} (F : FunD K "__init__" "Plan.__init__" (defArgs kInit) (defBody kInit) (defScope kInit) dvs kws f fd) (T : PlanTxt K mg C) (To : Kn P w K mg base 3 "are_tops" ["thing"] (spTops K) fT fdT) (Ru : Kn P w K mg base 6 "are_rules_of" ["tops", "thing"] (spRules K) fR fdR) :
    FnOk P w K mg base CX0 (k + 7) f fd ["self", "tops", "rules"] (spInit C) := by
  refine F.ok scInit (fun vs H Q E h => ?_) (fun cdv A outer s H vs Q E hr h => ?_)
  · obtain ⟨x, dx, t, R, tops, rs, rfl, _⟩ := h
    rfl
  · obtain ⟨x, dx, t, R, tops, rs, rfl, ex, et, eR, l1, l12, pl, l40, ok, q⟩ := h
    refine ⟨_, pss_cons (ps_if (pt_not (pt_val (pe_kn To hr (by omega) (pa_cons (pv 1) pa_nil)))) (pss_one ps_never) pss_nil)
      (pss_cons (ps_if (pt_not (pt_val (pe_kn Ru hr (by omega) (pa_cons (pv 1) (pa_cons (pv 2) pa_nil))))) (pss_one ps_never) pss_nil)
      (pss_cons (ps_fld (pv 0) (pv 1) rfl) (pss_one (ps_fld (pv 0) (pv 2) rfl)))), ?_⟩
    refine ⟨.ref t, rfl, t, tops, rfl, et, l1, l12, pl, fun H1 s1 => ⟨true, rfl, iteF ?_⟩⟩
    refine ⟨.ref t, rfl, .ref R, rfl, t, R, tops, rs, rfl, s1 _ _ et, eR.keep (.same s1), l40, ok, fun H2 s2 => ⟨true, rfl, iteF ?_⟩⟩
    have s02 := s1.trans s2
    refine ⟨.ref t, rfl, .ref x, rfl, x, C, dx, [], rfl, s02 _ _ ex, T.cl, T.nT, (show 0 < 1000 by decide), ?_⟩
    refine ⟨.ref R, rfl, .ref x, rfl, x, C, dx, _, rfl, upd_same, T.cl, T.nR, (show 1 < 1000 by decide), ?_⟩
    refine q _ (fun b o ne e => ?_) ?_
    · rw [upd_ne ne, upd_ne ne]
      exact s02 _ _ e
    · rw [upd_same]
      exact congrArg (fun z => some (HO.ins C dx z)) (put_two t R)
/-- Plan(tops, rules) -/
theorem plan_made {C x dx : Addr} {H : Hp} {t R : Addr} {tops : List Int} {rs : List Rl} {W : VK} {E : XK} (nx : H x = none) (ndx : H dx = none) (ne : dx ≠ x) (et : H t = some (.tup (tops.map V.int))) (eR : RulesAt H R rs) (l1 : 1 ≤ tops.length) (l12 : tops.length ≤ 12) (pl : Pl tops) (l40 : rs.length ≤ 40) (ok : ∀ q ∈ rs, RuleOk tops q)
    (q : ∀ H', Same H H' → PlanAt C H' x tops rs → W .non H') : spInit C [.ref x, .ref t, .ref R] (upd (upd H dx (.own x)) x (.ins C dx [])) W E := by
  have s1 : Same H (upd (upd H dx (.own x)) x (.ins C dx [])) := (same_new ndx).trans (same_new (by rw [upd_ne ne.symm]; exact nx))
  refine ⟨x, dx, t, R, tops, rs, rfl, upd_same, s1 _ _ et, eR.keep (.same s1), l1, l12, pl, l40, ok, fun H' k ex => ?_⟩
  have s2 : Same H H' := fun b o e => k b o (ne_of_none e nx) (s1 b o e)
  exact q H' s2 ⟨dx, t, R, ex, s2 _ _ et, eR.keep (.same s2)⟩
end
end K66

set_option Elab.async false
set_option linter.all false
set_option maxRecDepth 100000
namespace K66
open PySem PySem.Spec PyProof.Rows L2 NB

/-! ### the first state of a hall -/
def hd0 (i : Nat) (p : Int) : Hd := ⟨i, p, none, []⟩
def hds0 (i : Nat) : List Int → List Hd
  | [] => []
  | p :: ps => hd0 i p :: hds0 (i + 1) ps
def zeroS (tops places : List Int) : Sta := ⟨tops, [], hds0 0 places, [], 0, 0, 0, 0⟩
def firstS (tops places : List Int) (rs : List Rl) : Sta := rs.foldl addR (zeroS tops places)
theorem hds0_len (i : Nat) (ps : List Int) : (hds0 i ps).length = ps.length := by
  induction ps generalizing i with
  | nil => rfl
  | cons p ps ih => show (hds0 (i + 1) ps).length + 1 = _; rw [ih]; rfl
theorem hds0_get (i : Nat) (ps : List Int) (j : Nat) : (hds0 i ps)[j]? = ps[j]?.map (hd0 (i + j)) := by
  induction ps generalizing i j with
  | nil => rfl
  | cons p ps ih =>
    cases j with
    | zero => rfl
    | succ j =>
      show (hds0 (i + 1) ps)[j]? = _
      rw [ih]
      show ps[j]?.map _ = ps[j]?.map _
      congr 2
      omega
theorem hds0_snoc (i : Nat) (ps : List Int) (p : Int) : hds0 i (ps ++ [p]) = hds0 i ps ++ [hd0 (i + ps.length) p] := by
  induction ps generalizing i with
  | nil => rfl
  | cons q ps ih =>
    show hd0 i q :: hds0 (i + 1) (ps ++ [p]) = hd0 i q :: (hds0 (i + 1) ps ++ _)
    rw [ih]
    congr 3
    show hd0 (i + 1 + ps.length) p = hd0 (i + (ps.length + 1)) p
    congr 1
    omega
/-- so many rules were added -/
structure Added (many m : Nat) (σ : Sta) : Prop where
  nr : σ.nr = (m : Int)
  hn : σ.hands.length = many
  rl : σ.rules.length = m
  rk : ∀ k ∈ σ.rules.map (·.1), k < (m : Int)
  hk : ∀ h ∈ σ.hands, (∀ k ∈ h.rows.map (·.1), k < (m : Int)) ∧ h.rows.length ≤ m
theorem added0 (tops places : List Int) : Added places.length 0 (zeroS tops places) := by
  refine ⟨rfl, hds0_len 0 places, rfl, fun k h => absurd h List.not_mem_nil, fun h hh => ?_⟩
  obtain ⟨j, ej⟩ := List.getElem?_of_mem hh
  have ej' : (hds0 0 places)[j]? = some h := ej
  rw [hds0_get] at ej'
  obtain ⟨p, _, rfl⟩ := Option.map_eq_some_iff.mp ej'
  exact ⟨fun k h => absurd h List.not_mem_nil, Nat.le_refl _⟩
theorem putHs_rows {q : Rl} {n c : Int} {m : Nat} (e : n = (m : Int)) : ∀ (ts : List Nat) (hs : List Hd), ts.Nodup → (∀ j h, hs[j]? = some h → (∀ k ∈ h.rows.map (·.1), k < ((m + 1 : Nat) : Int)) ∧ h.rows.length ≤ m + 1 ∧ (j ∈ ts → h.rows.length ≤ m)) → ∀ h ∈ putHs hs ts n q c, (∀ k ∈ h.rows.map (·.1), k < ((m + 1 : Nat) : Int)) ∧ h.rows.length ≤ m + 1
  | [], hs, _, a, h, hh => by
    obtain ⟨j, ej⟩ := List.getElem?_of_mem hh
    exact ⟨(a j h ej).1, (a j h ej).2.1⟩
  | t :: ts, hs, nd, a, h, hh => by
    have nd' := List.nodup_cons.mp nd
    have hh' : h ∈ putHs (match hs[t]? with
      | some h => hs.set t { h with rows := h.rows ++ [(n, q, c)] }
      | none => hs) ts n q c := hh
    refine putHs_rows e ts _ nd'.2 (fun j h' ej => ?_) h hh'
    cases et : hs[t]? with
    | none =>
      rw [et] at ej
      have := a j h' ej
      exact ⟨this.1, this.2.1, fun w => this.2.2 (List.mem_cons_of_mem _ w)⟩
    | some g =>
      rw [et] at ej
      have ej' : (hs.set t { g with rows := g.rows ++ [(n, q, c)] })[j]? = some h' := ej
      by_cases w : t = j
      · subst w
        have tl := (List.getElem?_eq_some_iff.mp et).1
        rw [List.getElem?_set_self tl] at ej'
        cases ej'
        obtain ⟨a1, a2, a3⟩ := a t g et
        have a3' := a3 List.mem_cons_self
        refine ⟨fun k hk => ?_, ?_, fun z => absurd z nd'.1⟩
        · have hk' : k ∈ (g.rows ++ [(n, q, c)]).map (·.1) := hk
          rw [List.map_append, List.mem_append] at hk'
          rcases hk' with z | z
          · exact a1 k z
          · have : k = n := by simpa using z
            omega
        · show (g.rows ++ [(n, q, c)]).length ≤ m + 1
          rw [List.length_append, List.length_singleton]
          omega
      · rw [List.getElem?_set_ne w] at ej'
        have := a j h' ej'
        exact ⟨this.1, this.2.1, fun z => this.2.2 (List.mem_cons_of_mem _ z)⟩
theorem Added.more {many m : Nat} {σ : Sta} (a : Added many m σ) (q : Rl) : Added many (m + 1) (addR σ q) := by
  have hl : (addR σ q).hands = putHs σ.hands (thsOf q) σ.nr q (frC q (plsOf σ)) := rfl
  have rl : (addR σ q).rules = σ.rules ++ [(σ.nr, q)] := rfl
  refine ⟨?_, ?_, ?_, fun k hk => ?_, ?_⟩
  · show σ.nr + 1 = _
    rw [a.nr]
    rfl
  · rw [hl, putHs_len, a.hn]
  · rw [rl, List.length_append, a.rl]
    rfl
  · rw [rl, List.map_append, List.mem_append] at hk
    rcases hk with z | z
    · have := a.rk k z
      omega
    · have : k = σ.nr := by simpa using z
      have := a.nr
      omega
  · rw [hl]
    refine putHs_rows a.nr _ _ (ths_nodup q) fun j h ej => ?_
    obtain ⟨a1, a2⟩ := a.hk h (List.mem_of_getElem? ej)
    exact ⟨fun k hk => by have := a1 k hk; omega, by omega, fun _ => a2⟩
theorem Added.ok {many m : Nat} {σ : Sta} {q : Rl} (a : Added many m σ) (h1 : q.1.1 < many) (h2 : q.2.1 < many) (l : m ≤ 60) (l' : many ≤ 12) : AddOk σ q := by
  refine ⟨a.hn ▸ h1, a.hn ▸ h2, fun h hh => ⟨fun z => ?_, by have := (a.hk h hh).2; omega⟩, fun z => ?_, by have := a.rl; omega, by have := a.hn; omega⟩
  · have := (a.hk h hh).1 _ z
    have := a.nr
    omega
  · have := a.rk _ z
    have := a.nr
    omega
theorem HsAt.snoc {C : Addr} {H : Hp} : ∀ {zs : List HA} {hs : List Hd} {z : HA} {h : Hd}, HsAt C H zs hs → HandAt C H z.1 z.2.1 z.2.2 h → (∃ kvs, H z.2.1 = some (.dK kvs)) → HsAt C H (zs ++ [z]) (hs ++ [h])
  | [], [], _, _, _, a, u => ⟨⟨a, u⟩, trivial⟩
  | _ :: _, _ :: _, _, _, ⟨b, t⟩, a, u => ⟨b, t.snoc a u⟩
  | [], _ :: _, _, _, h, _, _ => h.elim
  | _ :: _, [], _, _, h, _, _ => h.elim
theorem ownH_snoc (zs : List HA) (z : HA) : ownH (zs ++ [z]) = ownH zs ++ hAs z := by
  unfold ownH
  rw [List.flatMap_append]
  simp
theorem look_rulesH (t R : Addr) : ([("tops", V.ref t), ("rules", V.ref R)] : List (Str × V)).lookup ("rules" : Str) = some (V.ref R) := by
  have n : (("rules" : Str) == "tops") = false := by decide +kernel
  simp [List.lookup, n]
def spFirst (CS C CP : Addr) : Sp := fun vs H Q _ => ∃ (x t : Addr) (tops places : List Int) (rs : List Rl), vs = [.ref x, .ref t] ∧ PlanAt CP H x tops rs ∧ H t = some (.tup (places.map V.int)) ∧ places.length ≤ 12 ∧ rs.length ≤ 60 ∧ (∀ q ∈ rs, q.1.1 < places.length ∧ q.2.1 < places.length) ∧
  ∀ H' s own, Same H H' → (∀ b ∈ own, H b = none) → StX CS C H' s own (firstS tops places rs) → Q (.ref s) H'
section
variable {P : Program} {w : World} {K : PySem.W.Frag} {mg : Str → Option Value} {base : Heap}
abbrev a_first_state : Stmt := topS 48
abbrev n_first_state : List Str := ["plan", "standing", "state", "rule", "thing", "place"]
theorem sc_first_state : FnScope n_first_state ["plan", "standing"] (defScope a_first_state) := ⟨rfl, rfl, rfl, by decide +kernel, rfl, by decide +kernel, by decide +kernel⟩
set_option maxHeartbeats 8000000 in
theorem ok_first_state {f fAd : Addr} {fd fdAd : FuncData} {k : Nat} {CS C CP f0 f1 : Addr} {fd0 fd1 : FuncData} (F : Fun K "first_state" "first_state" a_first_state f fd) (Ad : Kn P w K mg base 4 "add_rule" ["state", "rule"] (spAddR CS C) fAd fdAd) (XS : StateTxt K CS) (X : HandTxt K C) (TX : PlanTxt K mg CP) (MS : Mk K CS f1) (GS : FnOk P w K mg base CX0 1 f1 fd1 ["self", "tops"] (spSInit CS)) (bS : Binds K fd1 ["self", "tops"] []) (mgS : mg "State" = some (.ref CS)) (M : Mk K C f0) (GI : FnOk P w K mg base CX0 1 f0 fd0 ["self", "thing", "place", "rules"] (spHInit C)) (bI : Binds K fd0 ["self", "thing", "place", "rules"] []) (mgC : mg "Hand" = some (.ref C)) (m_enumerate : mg "enumerate" = none) : FnOk P w K mg base CX0 (k + 5) f fd ["plan", "standing"] (spFirst CS C CP) := by
  refine F.ok sc_first_state (fun vs H Q E h => ?_) (fun cdv A outer s H vs Q E hr h => ?_)
  · obtain ⟨x, t, tops, places, rs, rfl, _⟩ := h
    rfl
  · obtain ⟨x, t, tops, places, rs, rfl, hp, et, l12, l60, ok, q⟩ := h
    refine ⟨_, (pss_cons (ps_set (i := 2) sc_first_state.nd rfl (.inl rfl) (pe_make MS GS (hr.mono (by omega)) (by rfl) mgS bS .nil pass0 (pa_cons (pe_fld (pv 0) rfl) pa_nil)))
      (pss_cons (ps_fld (pv 2) (
        pe_lc (own := [("thing", 4), ("place", 5)]) (g := (gTup K 2 (gCons (gName 4) (gCons (gName 5) gNil)))) (tt := tYes) (te := tMake C (spHInit C) [] E0 (tCons (tVar 4) (tCons (tVar 5) (tCons (tTup tNil) tNil)))) rfl sc_first_state.nd (pi_enumT (by rfl) m_enumerate (pa_cons (pv 1) pa_nil)) (blkOk_by (N := n_first_state) (sc := defScope a_first_state) (by decide +kernel))
          (fun _ _ _ _ _ => (pg_tup rfl (pgs_cons (pg_name (i := 4) sc_first_state.nd rfl (.inl rfl) (hf := .inr rfl)) (pgs_cons (pg_name (i := 5) sc_first_state.nd rfl (.inl rfl) (hf := .inr rfl)) pgs_nil)))) (fun _ _ _ _ _ => pts_nil) (fun _ _ _ _ _ => (pe_make M GI (hr.mono (by omega)) (by rfl) mgC bI .nil pass0 (pa_cons (pv 4) (pa_cons (pv 5) (pa_cons (pe_tup pa_nil) pa_nil)))))) rfl)
      (pss_cons (ps_for PassesOwn.never rfl (pi_tup (pe_fld (pv 0) rfl)) (pg_name (i := 3) sc_first_state.nd rfl (.inl rfl))
        (pss_one (ps_expr (pe_kn Ad hr (by omega) (pa_cons (pv 2) (pa_cons (pv 3) pa_nil))))))
      (pss_one (ps_ret (pv 2)))))), ?_⟩
    obtain ⟨dxp, tt, R0, ex, ett, as, eR0, la, ra⟩ := hp
    have ex' : H x = some (.ins CP dxp [("tops", .ref tt), ("rules", .ref R0)]) := ex
    refine ⟨.ref x, rfl, x, CP, dxp, _, _, rfl, ex', TX.cl, TX.nT, List.lookup_cons_self, fun s ds ns nds dne => ⟨s, ds, tt, rfl, upd_same, fun H1 R Hs0 Ls k1 nR nHs nLs ndd es eR eHs eLs => ⟨rfl, ?_⟩⟩⟩
    have f0 : ∀ b, (upd (upd H ds (.own s)) s (.ins CS ds [])) b = none → H b = none := fun b e => by
      by_cases z : b = s
      · rw [z]; exact ns
      · rw [upd_ne z] at e
        by_cases y : b = ds
        · rw [y]; exact nds
        · rwa [upd_ne y] at e
    have s1 : Same H H1 := fun b o e => by
      have z : b ≠ s := fun z => by rw [z, ns] at e; cases e
      have y : b ≠ ds := fun y => by rw [y, nds] at e; cases e
      exact k1 b o z ((upd_ne z).trans ((upd_ne y).trans e))
    have nRH := f0 _ nR
    have nLH := f0 _ nLs
    have et1 := s1 _ _ et
    have ett1 := s1 _ _ ett
    refine ⟨.ref t, rfl, t, _, rfl, .inl (.inl et1), fun D nD => lc_it (walk_enumT (xs := places.map V.int)) (fun i H' => Same H1 H' ∧ ∃ zs : List HA, H' D = some (.lst (zs.map fun z => V.ref z.1)) ∧ zs.length = i ∧ HsAt C H' zs (hds0 0 (places.take i)) ∧ (ownH zs).Nodup ∧ ∀ b ∈ ownH zs, b ≠ D ∧ H1 b = none ∧ H' b ≠ none)
      ⟨same_new nD, [], upd_same, rfl, trivial, List.nodup_nil, fun b hb => absurd hb List.not_mem_nil⟩ (fun i H' _ p => .inl (.inl (p.1 _ _ et1))) (fun i v H2 H4 hi p yy => ?_) (fun H2 p => ?_)⟩
    · obtain ⟨s2, zs, eD, zl, hs, nd, far⟩ := p
      obtain ⟨T', x1, x2, rfl, nT, rfl, g1, g2⟩ := yy
      have e1 : x1 = .int (i : Nat) := (Option.some.inj g1).symm
      subst e1
      obtain ⟨pl, ep, rfl⟩ := mapGet g2
      have il : i < places.length := (List.getElem?_eq_some_iff.mp ep).1
      refine ⟨T', _, rfl, .inl (.inl upd_same), rfl, _, _, rfl, _, _, rfl, rfl, rfl, ?_⟩
      refine ⟨.int (i : Int), rfl, .int pl, rfl, (show 0 ≤ sizeLine by decide), fun T0 nT0 h dh nh ndh ne => ?_⟩
      have s4 : Same H2 (upd (upd H2 T' (.tup [V.int (i : Nat), V.int pl])) T0 (.tup [])) := (same_new nT).trans (same_new nT0)
      have t0 : (upd (upd H2 T' (.tup [V.int (i : Nat), V.int pl])) T0 (.tup [])) T0 = some (.tup []) := upd_same
      generalize upd (upd H2 T' (.tup [V.int (i : Nat), V.int pl])) T0 (.tup []) = H4 at s4 t0 nh ndh ⊢
      have s5 : Same H4 (upd (upd H4 dh (.own h)) h (.ins C dh [])) := (same_new ndh).trans (same_new (by rw [upd_ne ne.symm]; exact nh))
      have e5 : (upd (upd H4 dh (.own h)) h (.ins C dh [])) h = some (.ins C dh []) := upd_same
      generalize upd (upd H4 dh (.own h)) h (.ins C dh []) = H5 at s5 e5 ⊢
      refine ⟨h, dh, T0, i, pl, [], [], rfl, e5, ⟨[], s5 _ _ t0, rfl, rfl, fun i a r z e => by rw [List.getElem?_nil] at e; cases e⟩, List.nodup_nil, by decide, fun H6 D6 T6 k6 a6 nDT nD6 nT6 u6 => ⟨rfl, ?_⟩⟩
      have s26 : Same H2 H6 := fun b o e => k6 b o (fun z => by rw [z] at e; have := s4 _ _ e; rw [nh] at this; cases this) (s5 _ _ (s4 _ _ e))
      have eD6 := s26 _ _ eD
      have nh2 := s4.free nh
      have nD2 := s4.free (s5.free nD6)
      have nT2 := s4.free (s5.free nT6)
      have hD : h ≠ D := fun z => by rw [z, eD] at nh2; cases nh2
      have DD : D6 ≠ D := fun z => by rw [z, eD] at nD2; cases nD2
      have TD : T6 ≠ D := fun z => by rw [z, eD] at nT2; cases nT2
      have hD6 : h ≠ D6 := fun z => by rw [← z, e5] at nD6; cases nD6
      have hT6 : h ≠ T6 := fun z => by rw [← z, e5] at nT6; cases nT6
      have kD : ButL [D] H6 (upd H6 D (.lst ((zs.map fun z => V.ref z.1) ++ [.ref h]))) := fun b o nb e => (upd_ne (fun z => nb (by rw [z]; exact List.mem_cons_self))).trans e
      have tD : TupK H6 (upd H6 D (.lst ((zs.map fun z => V.ref z.1) ++ [.ref h]))) := fun b xs e => (upd_ne (fun w => by rw [w, eD6] at e; cases e)).trans e
      refine ⟨_, eD6, by rw [List.length_map, zl]; exact small1000 (by omega), same_over (s2.trans s26) nD, zs ++ [(h, D6, T6)], by rw [upd_same, List.map_append]; rfl, by rw [List.length_append, zl]; rfl, ?_, ?_, fun b hb => ?_⟩
      · rw [List.take_add_one, ep]
        show HsAt C _ _ (hds0 0 (places.take i ++ [pl]))
        rw [hds0_snoc, List.length_take, Nat.min_eq_left (by omega), Nat.zero_add]
        refine ((hs.same s26).farL kD tD fun b hb => by simp only [List.mem_singleton]; exact (far b hb).1).snoc ?_ ?_
        · exact HandAt.farL a6 kD tD (by simp only [List.mem_singleton]; exact hD) (by simp only [List.mem_singleton]; exact DD) (by simp only [List.mem_singleton]; exact TD)
        · obtain ⟨kvs, u6⟩ := u6
          exact ⟨kvs, (upd_ne DD).trans u6⟩
      · rw [ownH_snoc, List.nodup_append]
        refine ⟨nd, ?_, fun b hb c hc w => ?_⟩
        · simp [hAs, hD6, hT6, nDT]
        · subst w
          simp only [hAs, List.mem_cons, List.not_mem_nil, or_false] at hc
          rcases hc with w | w | w
          · exact (far b hb).2.2 (by rw [w]; exact nh2)
          · exact (far b hb).2.2 (by rw [w]; exact nD2)
          · exact (far b hb).2.2 (by rw [w]; exact nT2)
      · rw [ownH_snoc, List.mem_append] at hb
        rcases hb with hb | hb
        · obtain ⟨a1, a2, a3⟩ := far b hb
          refine ⟨a1, a2, fun z => a3 ?_⟩
          rw [upd_ne a1] at z
          exact s26.free z
        · simp only [hAs, List.mem_cons, List.not_mem_nil, or_false] at hb
          have a6' := a6
          obtain ⟨dx, v, hs', g1, _, _, g3, _⟩ := a6'
          obtain ⟨kvs, u6⟩ := u6
          rcases hb with w | w | w
          · exact ⟨w ▸ hD, w ▸ s2.free nh2, fun z => by rw [w, upd_ne hD, g1] at z; cases z⟩
          · exact ⟨w ▸ DD, w ▸ s2.free nD2, fun z => by rw [w, upd_ne DD, u6] at z; cases z⟩
          · exact ⟨w ▸ TD, w ▸ s2.free nT2, fun z => by rw [w, upd_ne TD, g3] at z; cases z⟩
    · obtain ⟨s2, zs, eD, zl, hs, nd, far⟩ := p
      have tkp : places.take (places.map V.int).length = places := List.take_of_length_le (by rw [List.length_map]; exact Nat.le_refl _)
      rw [tkp] at hs
      have es2 := s2 _ _ es
      refine ⟨.ref s, rfl, s, CS, ds, _, rfl, es2, XS.cl, XS.n3, (show 8 < 1000 by decide), ?_⟩
      rw [sp3]
      have sD : s ≠ D := fun z => by rw [← z, es] at nD; cases nD
      have RD : R ≠ D := fun z => by rw [← z, eR] at nD; cases nD
      have LD : Ls ≠ D := fun z => by rw [← z, eLs] at nD; cases nD
      have DH := s1.free nD
      simp only [List.nodup_cons, List.mem_cons, List.not_mem_nil, or_false, not_or] at ndd
      obtain ⟨⟨sR, _, sL⟩, ⟨_, RL⟩, _⟩ := ndd
      have kS : ButL [s] H2 (upd H2 s (.ins CS ds (stF (.ref tt) (.ref R) (.ref D) (.ref Ls) (.int 0) (.int 0) (.int 0) (.int 0)))) := fun b o nb e => (upd_ne (fun z => nb (by rw [z]; exact List.mem_cons_self))).trans e
      have tS : TupK H2 (upd H2 s (.ins CS ds (stF (.ref tt) (.ref R) (.ref D) (.ref Ls) (.int 0) (.int 0) (.int 0) (.int 0)))) := fun b xs e => (upd_ne (fun w => by rw [w, es2] at e; cases e)).trans e
      have st : StAt CS C (upd H2 s (.ins CS ds (stF (.ref tt) (.ref R) (.ref D) (.ref Ls) (.int 0) (.int 0) (.int 0) (.int 0)))) s ds tt R D Ls zs [] [] (zeroS tops places) := by
        refine ⟨upd_same, tS _ _ (s2 _ _ ett1), (upd_ne (Ne.symm sR)).trans (s2 _ _ eR), ⟨rfl, fun i z r e => by rw [List.getElem?_nil] at e; cases e⟩, (upd_ne (Ne.symm sD)).trans eD, hs.farL kS tS fun b hb w => ?_, (upd_ne (Ne.symm sL)).trans (s2 _ _ eLs), ⟨rfl, fun i z r e => by rw [List.getElem?_nil] at e; cases e⟩, ?_⟩
        · have w' : b = s := by simpa using w
          have := (far b hb).2.1
          rw [w', es] at this
          cases this
        · rw [List.nodup_append]
          refine ⟨?_, nd, fun b hb c hc w => ?_⟩
          · simp [sR, sD, sL, RD, RL, Ne.symm LD]
          · subst w
            simp only [List.mem_cons, List.not_mem_nil, or_false] at hb
            have f1 := (far b hc).2.1
            rcases hb with w | w | w | w
            · rw [w, es] at f1; cases f1
            · rw [w, eR] at f1; cases f1
            · exact (far b hc).1 w
            · rw [w, eLs] at f1; cases f1
      have own0 : ∀ b ∈ [s, R, D, Ls] ++ ownH zs, H b = none := fun b hb => by
        rcases List.mem_append.mp hb with w | w
        · simp only [List.mem_cons, List.not_mem_nil, or_false] at w
          rcases w with w | w | w | w
          · rw [w]; exact ns
          · rw [w]; exact nRH
          · rw [w]; exact DH
          · rw [w]; exact nLH
        · exact s1.free (far b w).2.1
      have s3 : Same H (upd H2 s (.ins CS ds (stF (.ref tt) (.ref R) (.ref D) (.ref Ls) (.int 0) (.int 0) (.int 0) (.int 0)))) := same_over (s1.trans s2) ns
      have X3 : StX CS C (upd H2 s (.ins CS ds (stF (.ref tt) (.ref R) (.ref D) (.ref Ls) (.int 0) (.int 0) (.int 0) (.int 0)))) s ([s, R, D, Ls] ++ ownH zs) (zeroS tops places) := ⟨ds, tt, R, D, Ls, zs, [], [], rfl, st⟩
      generalize upd H2 s (.ins CS ds (stF (.ref tt) (.ref R) (.ref D) (.ref Ls) (.int 0) (.int 0) (.int 0) (.int 0))) = H3 at s3 X3 ⊢
      generalize [s, R, D, Ls] ++ ownH zs = own at own0 X3
      have ad : ∀ i, i ≤ rs.length → Added places.length i ((rs.take i).foldl addR (zeroS tops places)) := fun i => by
        induction i with
        | zero => exact fun _ => added0 tops places
        | succ i ih =>
          intro hi
          have e : rs[i]? = some rs[i] := List.getElem?_eq_getElem (by omega)
          rw [List.take_add_one, e]
          show Added _ _ (List.foldl addR _ (rs.take i ++ [rs[i]]))
          rw [List.foldl_append]
          exact (ih (by omega)).more _
      refine ⟨.ref x, rfl, x, CP, dxp, _, _, rfl, s3 _ _ ex', TX.cl, TX.nR, look_rulesH _ _, R0, rfl, ⟨_, .inl (.inl (s3 _ _ eR0))⟩, for_it (walk_tup (xs := as.map V.ref)) (fun i σ' H' => (∃ u3 u4 u5, σ' = [some (.ref x), some (.ref t), some (.ref s), u3, u4, u5]) ∧ Same H H' ∧ StX CS C H' s own ((rs.take i).foldl addR (zeroS tops places)))
        ⟨⟨_, _, _, rfl⟩, s3, X3⟩ (fun i σ' H' _ p => .inl (.inl (p.2.1 _ _ eR0))) (fun i v σ' H4 H4' hi p yy => ?_) (fun σ' H4 p => ?_)⟩
      · obtain ⟨⟨u3, u4, u5, rfl⟩, s4, X4⟩ := p
        obtain ⟨rfl, gv⟩ := yy
        obtain ⟨r, er, rfl⟩ := mapGet gv
        have il : i < rs.length := by rw [← la]; simpa using hi
        have eq : rs[i]? = some rs[i] := List.getElem?_eq_getElem il
        have oq := ok _ (List.getElem_mem il)
        have rA := ra i r _ er eq
        generalize rs[i] = q0 at eq oq rA
        refine ⟨.ref s, rfl, .ref r, rfl, s, r, own, _, q0, rfl, X4, rA.tk (tk_same s4), (ad i (by omega)).ok oq.1 oq.2 (by omega) l12, fun H5 b5 X5 => ⟨⟨_, _, _, rfl⟩, ButL.old s4 b5 own0, ?_⟩⟩
        rw [List.take_add_one, eq]
        show StX CS C H5 s own (List.foldl addR _ (rs.take i ++ [q0]))
        rw [List.foldl_append]
        exact X5
      · obtain ⟨⟨u3, u4, u5, rfl⟩, s4, X4⟩ := p
        have tk : rs.take (as.map V.ref).length = rs := List.take_of_length_le (by rw [List.length_map, la]; exact Nat.le_refl _)
        rw [tk] at X4
        exact ⟨.ref s, rfl, q H4 s own s4 own0 X4⟩
end
end K66

set_option Elab.async false
set_option linter.all false
set_option maxRecDepth 100000
namespace K66
open PySem PySem.Spec PyProof.Rows L2 NB

/-! ### a hand again, a state copied -/
theorem put_held (i p v d t u : V) : putF "held" u [("thing", i), ("place", p), ("wish", v), ("held", d), ("tally", t)] = ([("thing", i), ("place", p), ("wish", v), ("held", u), ("tally", t)] : List (Str × V)) := by
  have n1 : ¬ (("thing" : Str) = "held") := by decide +kernel
  have n2 : ¬ (("place" : Str) = "held") := by decide +kernel
  have n3 : ¬ (("wish" : Str) = "held") := by decide +kernel
  have n4 : ¬ (("tally" : Str) = "held") := by decide +kernel
  simp [putF, n1, n2, n3, n4]
theorem put_tally (i p v d t u : V) : putF "tally" u [("thing", i), ("place", p), ("wish", v), ("held", d), ("tally", t)] = ([("thing", i), ("place", p), ("wish", v), ("held", d), ("tally", u)] : List (Str × V)) := by
  have n1 : ¬ (("thing" : Str) = "tally") := by decide +kernel
  have n2 : ¬ (("place" : Str) = "tally") := by decide +kernel
  have n3 : ¬ (("wish" : Str) = "tally") := by decide +kernel
  have n4 : ¬ (("held" : Str) = "tally") := by decide +kernel
  simp [putF, n1, n2, n3, n4]
/-- a new hand that stands as another one -/
def spAgain (C : Addr) : Sp := fun vs H Q _ => ∃ (x D T : Addr) (h : Hd), vs = [.ref x] ∧ HandAt C H x D T h ∧
  ∀ H' x' D' T', Same H H' → HandAt C H' x' D' T' h → H x' = none → H D' = none → H T' = none → [x', D', T'].Nodup → (∃ kvs, H' D' = some (.dK kvs)) → Q (.ref x') H'
section
variable {P : Program} {w : World} {K : PySem.W.Frag} {mg : Str → Option Value} {base : Heap}
abbrev a_hand_again : Stmt := topS 39
abbrev n_hand_again : List Str := ["hand", "other"]
theorem sc_hand_again : FnScope n_hand_again ["hand"] (defScope a_hand_again) := ⟨rfl, rfl, rfl, by decide +kernel, rfl, by decide +kernel, by decide +kernel⟩
set_option maxHeartbeats 8000000 in
theorem ok_hand_again {f  : Addr} {fd  : FuncData} {k : Nat} {C f0 : Addr} {fd0 : FuncData} (F : Fun K "hand_again" "hand_again" a_hand_again f fd)  (X : HandTxt K C) (M : Mk K C f0) (GI : FnOk P w K mg base CX0 1 f0 fd0 ["self", "thing", "place", "rules"] (spHInit C)) (bI : Binds K fd0 ["self", "thing", "place", "rules"] []) (mgC : mg "Hand" = some (.ref C)) (m_dict : mg "dict" = none) : FnOk P w K mg base CX0 (k + 3) f fd ["hand"] (spAgain C) := by
  refine F.ok sc_hand_again (fun vs H Q E h => ?_) (fun cdv A outer s H vs Q E hr h => ?_)
  · obtain ⟨x, D, T, h, rfl, _⟩ := h
    rfl
  · obtain ⟨x, D, T, h, rfl, ha, q⟩ := h
    refine ⟨_, (pss_cons (ps_set (i := 1) sc_hand_again.nd rfl (.inl rfl) (pe_make M GI (hr.mono (by omega)) (by rfl) mgC bI .nil pass0 (pa_cons (pe_fld (pv 0) rfl) (pa_cons (pe_fld (pv 0) rfl) (pa_cons (pe_tup pa_nil) pa_nil)))))
      (pss_cons (ps_fld (pv 1) (pe_fld (pv 0) rfl) rfl)
      (pss_cons (ps_fld (pv 1) (pe_callTy call_dictD (by rfl) m_dict (by decide +kernel) (pa_cons (pe_fld (pv 0) rfl) pa_nil)) rfl)
      (pss_cons (ps_fld (pv 1) (pe_callTy call_dictD (by rfl) m_dict (by decide +kernel) (pa_cons (pe_fld (pv 0) rfl) pa_nil)) rfl)
      (pss_one (ps_ret (pv 1))))))), ?_⟩
    obtain ⟨dx, v, hs, e, w0, d, t, l⟩ := ha
    have e' : H x = some (.ins C dx [("thing", .int (h.thing : Int)), ("place", .int h.place), ("wish", v), ("held", .ref D), ("tally", .ref T)]) := e
    refine ⟨.ref x, rfl, x, C, dx, _, _, rfl, e', X.cl, X.n1, lk1, .ref x, rfl, x, C, dx, _, _, rfl, e', X.cl, X.n2, lk2, (show 0 ≤ sizeLine by decide), fun T0 nT0 y dy ny ndy ne => ?_⟩
    have s4 : Same H (upd H T0 (.tup [])) := same_new nT0
    have t0 : (upd H T0 (.tup [])) T0 = some (.tup []) := upd_same
    generalize upd H T0 (.tup []) = H4 at s4 t0 ny ndy ⊢
    have s5 : Same H4 (upd (upd H4 dy (.own y)) y (.ins C dy [])) := (same_new ndy).trans (same_new (by rw [upd_ne ne.symm]; exact ny))
    have e5 : (upd (upd H4 dy (.own y)) y (.ins C dy [])) y = some (.ins C dy []) := upd_same
    generalize upd (upd H4 dy (.own y)) y (.ins C dy []) = H5 at s5 e5 ⊢
    refine ⟨y, dy, T0, h.thing, h.place, [], [], rfl, e5, ⟨[], s5 _ _ t0, rfl, rfl, fun i a r z e => by rw [List.getElem?_nil] at e; cases e⟩, List.nodup_nil, by decide, fun H6 D6 T6 k6 a6 nDT nD6 nT6 u6 => ⟨rfl, ?_⟩⟩
    have s6 : Same H H6 := fun b o e => k6 b o (fun z => by rw [z] at e; have := s4 _ _ e; rw [ny] at this; cases this) (s5 _ _ (s4 _ _ e))
    have nyH := s4.free ny
    obtain ⟨dy', vy, hy, ey, _, _⟩ := a6
    have ey' : H6 y = some (.ins C dy' [("thing", .int (h.thing : Int)), ("place", .int h.place), ("wish", vy), ("held", .ref D6), ("tally", .ref T6)]) := ey
    clear ey k6 s5 e5 s4 t0 u6
    refine ⟨.ref x, rfl, x, C, dx, _, _, rfl, s6 _ _ e', X.cl, X.n3, lk3, .ref y, rfl, y, C, dy', _, rfl, ey', X.cl, X.n3, (show 5 < 1000 by decide), ?_⟩
    rw [put_wish]
    have s7 := same_over (o := HO.ins C dy' [("thing", .int (h.thing : Int)), ("place", .int h.place), ("wish", v), ("held", .ref D6), ("tally", .ref T6)]) s6 nyH
    have e7 : (upd H6 y (.ins C dy' [("thing", .int (h.thing : Int)), ("place", .int h.place), ("wish", v), ("held", .ref D6), ("tally", .ref T6)])) y = some (.ins C dy' [("thing", .int (h.thing : Int)), ("place", .int h.place), ("wish", v), ("held", .ref D6), ("tally", .ref T6)]) := upd_same
    generalize upd H6 y (.ins C dy' [("thing", .int (h.thing : Int)), ("place", .int h.place), ("wish", v), ("held", .ref D6), ("tally", .ref T6)]) = H7 at s7 e7 ⊢
    refine ⟨.ref x, rfl, x, C, dx, _, _, rfl, s7 _ _ e', X.cl, X.n4, lk4, D, kvH hs, rfl, rs s7 d, fun D' nD' => ⟨.ref y, rfl, y, C, dy', _, rfl, (same_new nD') _ _ e7, X.cl, X.n4, (show 5 < 1000 by decide), ?_⟩⟩
    rw [put_held]
    have yD : y ≠ D' := fun z => by rw [← z, e7] at nD'; cases nD'
    have nDH := s7.free nD'
    have d8 : (upd H7 D' (.dK (kvH hs))) D' = some (.dK (kvH hs)) := upd_same
    have s8 := s7.trans (same_new (o := HO.dK (kvH hs)) nD')
    generalize upd H7 D' (.dK (kvH hs)) = H8 at d8 s8 ⊢
    have s9 := same_over (o := HO.ins C dy' [("thing", .int (h.thing : Int)), ("place", .int h.place), ("wish", v), ("held", .ref D'), ("tally", .ref T6)]) s8 nyH
    have e9 : (upd H8 y (.ins C dy' [("thing", .int (h.thing : Int)), ("place", .int h.place), ("wish", v), ("held", .ref D'), ("tally", .ref T6)])) y = some (.ins C dy' [("thing", .int (h.thing : Int)), ("place", .int h.place), ("wish", v), ("held", .ref D'), ("tally", .ref T6)]) := upd_same
    have d9 : (upd H8 y (.ins C dy' [("thing", .int (h.thing : Int)), ("place", .int h.place), ("wish", v), ("held", .ref D'), ("tally", .ref T6)])) D' = some (.dK (kvH hs)) := (upd_ne (Ne.symm yD)).trans d8
    generalize upd H8 y (.ins C dy' [("thing", .int (h.thing : Int)), ("place", .int h.place), ("wish", v), ("held", .ref D'), ("tally", .ref T6)]) = H9 at s9 e9 d9 ⊢
    refine ⟨.ref x, rfl, x, C, dx, _, _, rfl, s9 _ _ e', X.cl, X.n5, lk5, T, kvT h.rows, rfl, .inl (s9 _ _ t), fun T' nT' => ⟨.ref y, rfl, y, C, dy', _, rfl, (same_new nT') _ _ e9, X.cl, X.n5, (show 5 < 1000 by decide), ?_⟩⟩
    rw [put_tally]
    have yT : y ≠ T' := fun z => by rw [← z, e9] at nT'; cases nT'
    have DT : D' ≠ T' := fun z => by rw [← z, d9] at nT'; cases nT'
    have nTH := s9.free nT'
    have t10 : (upd H9 T' (.dK (kvT h.rows))) T' = some (.dK (kvT h.rows)) := upd_same
    have s10 := s9.trans (same_new (o := HO.dK (kvT h.rows)) nT')
    have d10 : (upd H9 T' (.dK (kvT h.rows))) D' = some (.dK (kvH hs)) := (upd_ne DT).trans d9
    generalize upd H9 T' (.dK (kvT h.rows)) = H10 at t10 s10 d10 ⊢
    have s11 := same_over (o := HO.ins C dy' [("thing", .int (h.thing : Int)), ("place", .int h.place), ("wish", v), ("held", .ref D'), ("tally", .ref T')]) s10 nyH
    have d11 : (upd H10 y (.ins C dy' [("thing", .int (h.thing : Int)), ("place", .int h.place), ("wish", v), ("held", .ref D'), ("tally", .ref T')])) D' = some (.dK (kvH hs)) := (upd_ne (Ne.symm yD)).trans d10
    refine ⟨.ref y, rfl, q _ y D' T' s11 ⟨dy', v, hs, upd_same, w0.keep (.same s11), .inl d11, (upd_ne (Ne.symm yT)).trans t10, l.keep (.same s11)⟩ nyH nDH nTH ?_ ⟨_, d11⟩⟩
    simp [yD, yT, DT]
end
end K66

set_option Elab.async false
set_option linter.all false
set_option maxRecDepth 100000
namespace K66
open PySem PySem.Spec PyProof.Rows L2 NB

/-! ### a state copied -/
/-- a hand more in a list of new hands -/
theorem HsAt.grow {C : Addr} {H3 H4 H5 : Hp} {D x D' T' : Addr} {zs : List HA} {hs : List Hd} {h : Hd} (nD : H3 D = none) (s2 : Same H3 H4) (eD : H4 D = some (.lst (zs.map fun z => V.ref z.1))) (a : HsAt C H4 zs hs) (nd : (ownH zs).Nodup)
    (far : ∀ b ∈ ownH zs, b ≠ D ∧ H3 b = none ∧ H4 b ≠ none) (s45 : Same H4 H5) (b : HandAt C H5 x D' T' h) (n1 : H4 x = none) (n2 : H4 D' = none) (n3 : H4 T' = none) (nd5 : [x, D', T'].Nodup) (u : ∃ kvs, H5 D' = some (.dK kvs)) :
    Same H3 (upd H5 D (.lst ((zs.map fun z => V.ref z.1) ++ [.ref x]))) ∧ (upd H5 D (.lst ((zs.map fun z => V.ref z.1) ++ [.ref x]))) D = some (.lst ((zs ++ [(x, D', T')]).map fun z => V.ref z.1)) ∧
    HsAt C (upd H5 D (.lst ((zs.map fun z => V.ref z.1) ++ [.ref x]))) (zs ++ [(x, D', T')]) (hs ++ [h]) ∧ (ownH (zs ++ [(x, D', T')])).Nodup ∧ ∀ b ∈ ownH (zs ++ [(x, D', T')]), b ≠ D ∧ H3 b = none ∧ (upd H5 D (.lst ((zs.map fun z => V.ref z.1) ++ [.ref x]))) b ≠ none := by
  have eD5 := s45 _ _ eD
  have xD : x ≠ D := fun z => by rw [z, eD] at n1; cases n1
  have DD : D' ≠ D := fun z => by rw [z, eD] at n2; cases n2
  have TD : T' ≠ D := fun z => by rw [z, eD] at n3; cases n3
  have kD : ButL [D] H5 (upd H5 D (.lst ((zs.map fun z => V.ref z.1) ++ [.ref x]))) := fun b o nb e => (upd_ne (fun z => nb (by rw [z]; exact List.mem_cons_self))).trans e
  have tD : TupK H5 (upd H5 D (.lst ((zs.map fun z => V.ref z.1) ++ [.ref x]))) := fun b xs e => (upd_ne (fun w => by rw [w, eD5] at e; cases e)).trans e
  refine ⟨same_over (s2.trans s45) nD, by rw [upd_same, List.map_append]; rfl, ?_, ?_, fun c hb => ?_⟩
  · refine ((a.same s45).farL kD tD fun b hb => by simp only [List.mem_singleton]; exact (far b hb).1).snoc ?_ ?_
    · exact HandAt.farL b kD tD (by simp only [List.mem_singleton]; exact xD) (by simp only [List.mem_singleton]; exact DD) (by simp only [List.mem_singleton]; exact TD)
    · obtain ⟨kvs, u⟩ := u
      exact ⟨kvs, (upd_ne DD).trans u⟩
  · rw [ownH_snoc, List.nodup_append]
    refine ⟨nd, nd5, fun b hb c hc w => ?_⟩
    subst w
    simp only [hAs, List.mem_cons, List.not_mem_nil, or_false] at hc
    rcases hc with w | w | w
    · exact (far b hb).2.2 (by rw [w]; exact n1)
    · exact (far b hb).2.2 (by rw [w]; exact n2)
    · exact (far b hb).2.2 (by rw [w]; exact n3)
  · rw [ownH_snoc, List.mem_append] at hb
    rcases hb with hb | hb
    · obtain ⟨a1, a2, a3⟩ := far c hb
      refine ⟨a1, a2, fun z => a3 ?_⟩
      rw [upd_ne a1] at z
      exact s45.free z
    · simp only [hAs, List.mem_cons, List.not_mem_nil, or_false] at hb
      obtain ⟨dx, v, hs', g1, _, _, g3, _⟩ := b
      obtain ⟨kvs, u⟩ := u
      rcases hb with w | w | w
      · exact ⟨w ▸ xD, w ▸ s2.free n1, fun z => by rw [w, upd_ne xD, g1] at z; cases z⟩
      · exact ⟨w ▸ DD, w ▸ s2.free n2, fun z => by rw [w, upd_ne DD, u] at z; cases z⟩
      · exact ⟨w ▸ TD, w ▸ s2.free n3, fun z => by rw [w, upd_ne TD, g3] at z; cases z⟩
def spCopied (CS C : Addr) : Sp := fun vs H Q _ => ∃ (s : Addr) (own : List Addr) (σ : Sta), vs = [.ref s] ∧ StX CS C H s own σ ∧ σ.hands.length ≤ 12 ∧ σ.letters.length ≤ 900 ∧
  ∀ H' s' own', Same H H' → (∀ b ∈ own', H b = none) → StX CS C H' s' own' σ → Q (.ref s') H'
section
variable {P : Program} {w : World} {K : PySem.W.Frag} {mg : Str → Option Value} {base : Heap}
abbrev a_copied : Stmt := topS 40
abbrev n_copied : List Str := ["state", "other", "hand"]
theorem sc_copied : FnScope n_copied ["state"] (defScope a_copied) := ⟨rfl, rfl, rfl, by decide +kernel, rfl, by decide +kernel, by decide +kernel⟩
set_option maxHeartbeats 8000000 in
theorem ok_copied {f fHa : Addr} {fd fdHa : FuncData} {k : Nat} {CS C f1 : Addr} {fd1 : FuncData} (F : Fun K "copied" "copied" a_copied f fd) (Ha : Kn P w K mg base 3 "hand_again" ["hand"] (spAgain C) fHa fdHa) (XS : StateTxt K CS) (MS : Mk K CS f1) (GS : FnOk P w K mg base CX0 1 f1 fd1 ["self", "tops"] (spSInit CS)) (bS : Binds K fd1 ["self", "tops"] []) (mgS : mg "State" = some (.ref CS)) (m_dict : mg "dict" = none) (m_list : mg "list" = none) : FnOk P w K mg base CX0 (k + 4) f fd ["state"] (spCopied CS C) := by
  refine F.ok sc_copied (fun vs H Q E h => ?_) (fun cdv A outer s H vs Q E hr h => ?_)
  · obtain ⟨s, own, σ, rfl, _⟩ := h
    rfl
  · obtain ⟨s, own, σ, rfl, hs, l12, l9, q⟩ := h
    refine ⟨_, (pss_cons (ps_set (i := 1) sc_copied.nd rfl (.inl rfl) (pe_make MS GS (hr.mono (by omega)) (by rfl) mgS bS .nil pass0 (pa_cons (pe_fld (pv 0) rfl) pa_nil)))
      (pss_cons (ps_fld (pv 1) (pe_callTy call_dictD (by rfl) m_dict (by decide +kernel) (pa_cons (pe_fld (pv 0) rfl) pa_nil)) rfl)
      (pss_cons (ps_fld (pv 1) (
        pe_lc (own := [("hand", 2)]) (g := (gName 2)) (tt := tYes) (te := (tCall (spAgain C) [] E0 (tCons (tVar 2) tNil))) rfl sc_copied.nd (pi_list (pe_fld (pv 0) rfl)) (blkOk_by (N := n_copied) (sc := defScope a_copied) (by decide +kernel))
          (fun _ _ _ _ _ => (pg_name (i := 2) sc_copied.nd rfl (.inl rfl) (hf := .inr rfl))) (fun _ _ _ _ _ => pts_nil) (fun _ _ _ _ _ => (pe_kn Ha hr (by omega) (pa_cons (pv 2) pa_nil)))) rfl)
      (pss_cons (ps_fld (pv 1) (pe_callTy call_list_of (by rfl) m_list (by decide +kernel) (pa_cons (pe_fld (pv 0) rfl) pa_nil)) rfl)
      (pss_cons (ps_fld (pv 1) (pe_fld (pv 0) rfl) rfl)
      (pss_cons (ps_fld (pv 1) (pe_fld (pv 0) rfl) rfl)
      (pss_cons (ps_fld (pv 1) (pe_fld (pv 0) rfl) rfl)
      (pss_cons (ps_fld (pv 1) (pe_fld (pv 0) rfl) rfl)
      (pss_one (ps_ret (pv 1))))))))))), ?_⟩
    obtain ⟨ds, tp, R, Hs, Ls, zs, rs, ls, eo, st⟩ := hs
    refine ⟨.ref s, rfl, s, CS, ds, _, _, rfl, st.fs, XS.cl, XS.n1, sk1, fun y dy ny ndy dne => ⟨y, dy, tp, rfl, upd_same, fun H1 R1 Hs1 Ls1 k1 nR nHs nLs ndd es eR eHs eLs => ⟨rfl, ?_⟩⟩⟩
    have s1 : Same H H1 := fun b o e => by
      have z : b ≠ y := fun z => by rw [z, ny] at e; cases e
      have w : b ≠ dy := fun w => by rw [w, ndy] at e; cases e
      exact k1 b o z ((upd_ne z).trans ((upd_ne w).trans e))
    clear k1 nR nHs nLs ndd eR eHs eLs
    refine ⟨.ref s, rfl, s, CS, ds, _, _, rfl, s1 _ _ st.fs, XS.cl, XS.n2, sk2, R, kvH rs, rfl, .inl (s1 _ _ st.fr), fun R' nR' => ⟨.ref y, rfl, y, CS, dy, _, rfl, (same_new nR') _ _ es, XS.cl, XS.n2, (show 8 < 1000 by decide), ?_⟩⟩
    rw [sp2]
    have yR : y ≠ R' := fun z => by rw [← z, es] at nR'; cases nR'
    have nRH := s1.free nR'
    have r2 : (upd H1 R' (.dK (kvH rs))) R' = some (.dK (kvH rs)) := upd_same
    have s2 := s1.trans (same_new (o := HO.dK (kvH rs)) nR')
    generalize upd H1 R' (.dK (kvH rs)) = H2 at r2 s2 ⊢
    have s3 := same_over (o := HO.ins CS dy (stF (.ref tp) (.ref R') (.ref Hs1) (.ref Ls1) (.int 0) (.int 0) (.int 0) (.int 0))) s2 ny
    have e3 : (upd H2 y (.ins CS dy (stF (.ref tp) (.ref R') (.ref Hs1) (.ref Ls1) (.int 0) (.int 0) (.int 0) (.int 0)))) y = some (.ins CS dy (stF (.ref tp) (.ref R') (.ref Hs1) (.ref Ls1) (.int 0) (.int 0) (.int 0) (.int 0))) := upd_same
    have r3 : (upd H2 y (.ins CS dy (stF (.ref tp) (.ref R') (.ref Hs1) (.ref Ls1) (.int 0) (.int 0) (.int 0) (.int 0)))) R' = some (.dK (kvH rs)) := (upd_ne (Ne.symm yR)).trans r2
    generalize upd H2 y (.ins CS dy (stF (.ref tp) (.ref R') (.ref Hs1) (.ref Ls1) (.int 0) (.int 0) (.int 0) (.int 0))) = H3 at s3 e3 r3 ⊢
    clear s2 r2 nR' es s1
    have st3 := st.same s3
    have zl0 := st.fhs.len
    refine ⟨.ref s, rfl, s, CS, ds, _, _, rfl, st3.fs, XS.cl, XS.n3, sk3, Hs, rfl, ⟨_, .inl (.inl st3.fh)⟩, fun D nD => lc_it (walk_list (xs := zs.map fun z => V.ref z.1)) (fun i H' => Same H3 H' ∧ ∃ zs' : List HA, H' D = some (.lst (zs'.map fun z => V.ref z.1)) ∧ zs'.length = i ∧ HsAt C H' zs' (σ.hands.take i) ∧ (ownH zs').Nodup ∧ ∀ b ∈ ownH zs', b ≠ D ∧ H3 b = none ∧ H' b ≠ none)
      ⟨same_new nD, [], upd_same, rfl, trivial, List.nodup_nil, fun b hb => absurd hb List.not_mem_nil⟩ (fun i H' _ p => .inl (.inl (p.1 _ _ st3.fh))) (fun i v H4' H4 hi p yy => ?_) (fun H4 p => ?_)⟩
    · obtain ⟨s4, zs', eD, zl, hs, nd, far⟩ := p
      obtain ⟨rfl, gv⟩ := yy
      obtain ⟨z, ez, rfl⟩ := mapGet gv
      have st4 := st3.same s4
      obtain ⟨h, eh, a0, _⟩ := st4.fhs.get ez
      have il : i < σ.hands.length := (List.getElem?_eq_some_iff.mp eh).1
      refine ⟨rfl, .ref z.1, rfl, z.1, z.2.1, z.2.2, h, rfl, a0, fun H5 x' D' T' s5 a5 n1 n2 n3 nd5 u5 => ⟨_, s5 _ _ eD, by rw [List.length_map, zl]; exact small1000 (by omega), ?_⟩⟩
      obtain ⟨g1, g2, g3, g4, g5⟩ := HsAt.grow nD s4 eD hs nd far s5 a5 n1 n2 n3 nd5 u5
      refine ⟨g1, zs' ++ [(x', D', T')], g2, by rw [List.length_append, zl]; rfl, ?_, g4, g5⟩
      rw [List.take_add_one, eh]
      exact g3
    · obtain ⟨s4, zs', eD, zl, hs, nd, far⟩ := p
      have tkh : σ.hands.take (zs.map fun z => V.ref z.1).length = σ.hands := List.take_of_length_le (by rw [List.length_map, zl0]; exact Nat.le_refl _)
      rw [tkh] at hs
      have yD : y ≠ D := fun z => by rw [← z, e3] at nD; cases nD
      have RD : R' ≠ D := fun z => by rw [← z, r3] at nD; cases nD
      have DH := s3.free nD
      have s5 := s3.trans s4
      have st5 := st.same s5
      have e5 := s4 _ _ e3
      have r5 := s4 _ _ r3
      have far' : ∀ b ∈ ownH zs', b ≠ y ∧ b ≠ R' ∧ b ≠ D ∧ H b = none ∧ H4 b ≠ none := fun b hb => by
        obtain ⟨f1, f2, f3⟩ := far b hb
        exact ⟨fun z => (by rw [z, e3] at f2; cases f2), fun z => (by rw [z, r3] at f2; cases f2), f1, s3.free f2, f3⟩
      refine ⟨.ref y, rfl, y, CS, dy, _, rfl, e5, XS.cl, XS.n3, (show 8 < 1000 by decide), ?_⟩
      rw [sp3]
      have kY : ButL [y] H4 (upd H4 y (.ins CS dy (stF (.ref tp) (.ref R') (.ref D) (.ref Ls1) (.int 0) (.int 0) (.int 0) (.int 0)))) := fun b o nb e => (upd_ne (fun z => nb (by rw [z]; exact List.mem_cons_self))).trans e
      have tY : TupK H4 (upd H4 y (.ins CS dy (stF (.ref tp) (.ref R') (.ref D) (.ref Ls1) (.int 0) (.int 0) (.int 0) (.int 0)))) := fun b xs e => (upd_ne (fun w => by rw [w, e5] at e; cases e)).trans e
      have s6 := same_over (o := HO.ins CS dy (stF (.ref tp) (.ref R') (.ref D) (.ref Ls1) (.int 0) (.int 0) (.int 0) (.int 0))) s5 ny
      have e6 : (upd H4 y (.ins CS dy (stF (.ref tp) (.ref R') (.ref D) (.ref Ls1) (.int 0) (.int 0) (.int 0) (.int 0)))) y = some (.ins CS dy (stF (.ref tp) (.ref R') (.ref D) (.ref Ls1) (.int 0) (.int 0) (.int 0) (.int 0))) := upd_same
      have r6 : (upd H4 y (.ins CS dy (stF (.ref tp) (.ref R') (.ref D) (.ref Ls1) (.int 0) (.int 0) (.int 0) (.int 0)))) R' = some (.dK (kvH rs)) := (upd_ne (Ne.symm yR)).trans r5
      have d6 : (upd H4 y (.ins CS dy (stF (.ref tp) (.ref R') (.ref D) (.ref Ls1) (.int 0) (.int 0) (.int 0) (.int 0)))) D = some (.lst (zs'.map fun z => V.ref z.1)) := (upd_ne (Ne.symm yD)).trans eD
      have h6 : HsAt C (upd H4 y (.ins CS dy (stF (.ref tp) (.ref R') (.ref D) (.ref Ls1) (.int 0) (.int 0) (.int 0) (.int 0)))) zs' σ.hands := hs.farL kY tY fun b hb w => (far' b hb).1 (by simpa using w)
      have f6 : ∀ b ∈ ownH zs', (upd H4 y (.ins CS dy (stF (.ref tp) (.ref R') (.ref D) (.ref Ls1) (.int 0) (.int 0) (.int 0) (.int 0)))) b ≠ none := fun b hb z => (far' b hb).2.2.2.2 (by rwa [upd_ne (far' b hb).1] at z)
      generalize upd H4 y (.ins CS dy (stF (.ref tp) (.ref R') (.ref D) (.ref Ls1) (.int 0) (.int 0) (.int 0) (.int 0))) = H6 at s6 e6 r6 d6 h6 f6 ⊢
      clear kY tY
      have st6 := st.same s6
      refine ⟨.ref s, rfl, s, CS, ds, _, _, rfl, st6.fs, XS.cl, XS.n4, sk4, Ls, _, rfl, .inl (.inl (.inl st6.fl)), fun L' nL' => ⟨.ref y, rfl, y, CS, dy, _, rfl, (same_new nL') _ _ e6, XS.cl, XS.n4, (show 8 < 1000 by decide), ?_⟩⟩
      rw [sp4]
      have yL : y ≠ L' := fun z => by rw [← z, e6] at nL'; cases nL'
      have RL : R' ≠ L' := fun z => by rw [← z, r6] at nL'; cases nL'
      have DL : D ≠ L' := fun z => by rw [← z, d6] at nL'; cases nL'
      have LH := s6.free nL'
      have l7 : (upd H6 L' (.lst (ls.map V.ref))) L' = some (.lst (ls.map V.ref)) := upd_same
      have k7 := same_new (o := HO.lst (ls.map V.ref)) nL'
      have fL : ∀ b ∈ ownH zs', b ≠ L' := fun b hb z => f6 b hb (by rw [z]; exact nL')
      have s7 := s6.trans k7
      have r7 := k7 _ _ r6
      have d7 := k7 _ _ d6
      have h7 := h6.same k7
      have e7 := k7 _ _ e6
      generalize upd H6 L' (.lst (ls.map V.ref)) = H7 at l7 s7 r7 d7 h7 e7 ⊢
      clear k7
      refine ⟨.ref s, rfl, s, CS, ds, _, _, rfl, (same_over s7 ny) _ _ st.fs, XS.cl, XS.n5, sk5, .ref y, rfl, y, CS, dy, _, rfl, upd_same, XS.cl, XS.n5, (show 8 < 1000 by decide), ?_⟩
      rw [sp5, upd_upd]
      refine ⟨.ref s, rfl, s, CS, ds, _, _, rfl, (same_over s7 ny) _ _ st.fs, XS.cl, XS.n6, sk6, .ref y, rfl, y, CS, dy, _, rfl, upd_same, XS.cl, XS.n6, (show 8 < 1000 by decide), ?_⟩
      rw [sp6, upd_upd]
      refine ⟨.ref s, rfl, s, CS, ds, _, _, rfl, (same_over s7 ny) _ _ st.fs, XS.cl, XS.n7, sk7, .ref y, rfl, y, CS, dy, _, rfl, upd_same, XS.cl, XS.n7, (show 8 < 1000 by decide), ?_⟩
      rw [sp7, upd_upd]
      refine ⟨.ref s, rfl, s, CS, ds, _, _, rfl, (same_over s7 ny) _ _ st.fs, XS.cl, XS.n8, sk8, .ref y, rfl, y, CS, dy, _, rfl, upd_same, XS.cl, XS.n8, (show 8 < 1000 by decide), ?_⟩
      rw [sp8, upd_upd]
      have s8 := same_over (o := HO.ins CS dy (stF (.ref tp) (.ref R') (.ref D) (.ref L') (.int σ.nm) (.int σ.nr) (.int σ.lw) (.int σ.ag))) s7 ny
      have kY : ButL [y] H7 (upd H7 y (.ins CS dy (stF (.ref tp) (.ref R') (.ref D) (.ref L') (.int σ.nm) (.int σ.nr) (.int σ.lw) (.int σ.ag)))) := fun b o nb e => (upd_ne (fun z => nb (by rw [z]; exact List.mem_cons_self))).trans e
      have tY : TupK H7 (upd H7 y (.ins CS dy (stF (.ref tp) (.ref R') (.ref D) (.ref L') (.int σ.nm) (.int σ.nr) (.int σ.lw) (.int σ.ag)))) := fun b xs e => (upd_ne (fun w => by rw [w, e7] at e; cases e)).trans e
      refine ⟨.ref y, rfl, q _ y ([y, R', D, L'] ++ ownH zs') s8 (fun b hb => ?_) ⟨dy, tp, R', D, L', zs', rs, ls, rfl, ?_⟩⟩
      · rcases List.mem_append.mp hb with w | w
        · simp only [List.mem_cons, List.not_mem_nil, or_false] at w
          rcases w with w | w | w | w
          · rw [w]; exact ny
          · rw [w]; exact nRH
          · rw [w]; exact DH
          · rw [w]; exact LH
        · exact (far' b w).2.2.2.1
      · refine ⟨upd_same, s8 _ _ st.ft, (upd_ne (Ne.symm yR)).trans r7, st.fru.tk (tk_same s8), (upd_ne (Ne.symm yD)).trans d7, h7.farL kY tY fun b hb w => (far' b hb).1 (by simpa using w), (upd_ne (Ne.symm yL)).trans l7, st.fla.tk (tk_same s8), ?_⟩
        rw [List.nodup_append]
        refine ⟨?_, nd, fun b hb c hc w => ?_⟩
        · simp [yR, yD, yL, RD, RL, DL]
        · subst w
          simp only [List.mem_cons, List.not_mem_nil, or_false] at hb
          obtain ⟨g1, g2, g3, _⟩ := far' b hc
          rcases hb with w | w | w | w
          · exact g1 w
          · exact g2 w
          · exact g3 w
          · exact fL b hc w
end
end K66

set_option Elab.async false
set_option linter.all false
set_option maxRecDepth 100000
namespace K66
open PySem PySem.Spec PyProof.Rows L2 NB

/-! ### the plan of a state -/
def PlOk (tops : List Int) (rs : List Rl) : Prop := 1 ≤ tops.length ∧ tops.length ≤ 12 ∧ Pl tops ∧ rs.length ≤ 40 ∧ ∀ q ∈ rs, RuleOk tops q
def spPlanOf (CS C CP : Addr) : Sp := fun vs H Q _ => ∃ (s : Addr) (own : List Addr) (σ : Sta), vs = [.ref s] ∧ StX CS C H s own σ ∧ Rsg σ ∧ PlOk σ.tops (σ.rules.map (·.2)) ∧
  ∀ H' p, Same H H' → PlanAt CP H' p σ.tops (σ.rules.map (·.2)) → Q (.ref p) H'
section
variable {P : Program} {w : World} {K : PySem.W.Frag} {mg : Str → Option Value} {base : Heap}
abbrev a_plan_of : Stmt := topS 42
abbrev n_plan_of : List Str := ["state", "number", "rule"]
theorem sc_plan_of : FnScope n_plan_of ["state"] (defScope a_plan_of) := ⟨rfl, rfl, rfl, by decide +kernel, rfl, by decide +kernel, by decide +kernel⟩
set_option maxHeartbeats 8000000 in
theorem ok_plan_of {f fNu : Addr} {fd fdNu : FuncData} {k : Nat} {CS C CP f0 : Addr} {fd0 : FuncData} (F : Fun K "plan_of" "plan_of" a_plan_of f fd) (Nu : Kn P w K mg base 1 "numbered_rules" ["state"] (spNumb CS C) fNu fdNu) (XS : StateTxt K CS) (TX : PlanTxt K mg CP) (M : Mk K CP f0) (GI : FnOk P w K mg base CX0 7 f0 fd0 ["self", "tops", "rules"] (spInit CP)) (bI : Binds K fd0 ["self", "tops", "rules"] []) (m_tuple : mg "tuple" = none) : FnOk P w K mg base CX0 (k + 9) f fd ["state"] (spPlanOf CS C CP) := by
  refine F.ok sc_plan_of (fun vs H Q E h => ?_) (fun cdv A outer s H vs Q E hr h => ?_)
  · obtain ⟨s, own, σ, rfl, _⟩ := h
    rfl
  · obtain ⟨s, own, σ, rfl, hs, rg, pk, q⟩ := h
    refine ⟨_, (pss_one (ps_ret (pe_make M GI (hr.mono (by omega)) (by rfl) TX.mgC bI .nil pass0 (pa_cons (pe_fld (pv 0) rfl) (pa_cons (pe_callTy call_tuple_of (by rfl) m_tuple (by decide +kernel) (pa_cons (
        pe_lc (own := [("number", 1), ("rule", 2)]) (g := (gTup K 2 (gCons (gName 1) (gCons (gName 2) gNil)))) (tt := tYes) (te := (tVar 2)) rfl sc_plan_of.nd (pi_tup (pe_kn Nu hr (by omega) (pa_cons (pv 0) pa_nil))) (blkOk_by (N := n_plan_of) (sc := defScope a_plan_of) (by decide +kernel))
          (fun _ _ _ _ _ => (pg_tup rfl (pgs_cons (pg_name (i := 1) sc_plan_of.nd rfl (.inl rfl) (hf := .inr rfl)) (pgs_cons (pg_name (i := 2) sc_plan_of.nd rfl (.inl rfl) (hf := .inr rfl)) pgs_nil)))) (fun _ _ _ _ _ => pts_nil) (fun _ _ _ _ _ => (pv 2))) pa_nil)) pa_nil))))), ?_⟩
    obtain ⟨ds, tp, R, Hs, Ls, zs, rs, ls, eo, st⟩ := id hs
    obtain ⟨p1, p2, p3, p4, p5⟩ := pk
    rw [List.length_map] at p4
    refine ⟨.ref s, rfl, s, CS, ds, _, _, rfl, st.fs, XS.cl, XS.n1, sk1, .ref s, rfl, s, own, σ, rfl, hs, rg, fun H1 g as s1 eg nb => ⟨g, rfl, ⟨_, .inl (.inl eg)⟩, fun D nD => lc_it (walk_tup (xs := as.map V.ref)) (fun i H' => Same H1 H' ∧ ∃ bs : List Addr, H' D = some (.lst (bs.map V.ref)) ∧ bs.length = i ∧ ∀ (j : Nat) b r, bs[j]? = some b → σ.rules[j]? = some r → RuleAt H' b r.2)
      ⟨same_new nD, [], upd_same, rfl, fun j b r e => by rw [List.getElem?_nil] at e; cases e⟩ (fun i H' _ p => .inl (.inl (p.1 _ _ eg))) (fun i v H4' H4 hi p yy => ?_) (fun H4 p => ?_)⟩⟩
    · obtain ⟨s4, bs, eD, bl, br⟩ := p
      obtain ⟨rfl, gv⟩ := yy
      obtain ⟨a, ea, rfl⟩ := mapGet gv
      have il : i < σ.rules.length := by rw [← nb.1]; simpa using hi
      have er : σ.rules[i]? = some σ.rules[i] := List.getElem?_eq_getElem il
      generalize σ.rules[i] = r0 at er
      obtain ⟨p, e1, e2⟩ := (nb.tk (tk_same s4)).2 i a r0 ea er
      have kD : TupK H4 (upd H4 D (.lst (bs.map V.ref ++ [.ref p]))) := fun b xs e => (upd_ne (fun w => by rw [w, eD] at e; cases e)).trans e
      refine ⟨a, _, rfl, .inl (.inl e1), rfl, _, _, rfl, _, _, rfl, rfl, rfl, .ref p, rfl, _, eD, by rw [List.length_map, bl]; exact small1000 (by omega), same_over s4 nD, bs ++ [p], by rw [upd_same, List.map_append]; rfl, by rw [List.length_append, bl]; rfl, fun j b r h1 h2 => ?_⟩
      rcases Nat.lt_or_ge j bs.length with c | c
      · rw [List.getElem?_append_left c] at h1
        exact (br j b r h1 h2).tk kD
      · have hl := (List.getElem?_eq_some_iff.mp h1).1
        rw [List.length_append, List.length_singleton] at hl
        have j0 : j = bs.length := by omega
        rw [j0, List.getElem?_append_right (Nat.le_refl _), Nat.sub_self] at h1
        rw [j0, bl, er] at h2
        cases h1
        cases h2
        exact e2.tk kD
    · obtain ⟨s4, bs, eD, bl, br⟩ := p
      rw [List.length_map, nb.1] at bl
      refine ⟨D, _, rfl, .inl ⟨.inl (.inl eD), fun g2 ng x dx nx ndx ne => ?_⟩⟩
      have s5 : Same H (upd H4 g2 (.tup (bs.map V.ref))) := (s1.trans s4).trans (same_new ng)
      have e5 : (upd H4 g2 (.tup (bs.map V.ref))) g2 = some (.tup (bs.map V.ref)) := upd_same
      have br5 : ∀ (j : Nat) b r, bs[j]? = some b → σ.rules[j]? = some r → RuleAt (upd H4 g2 (.tup (bs.map V.ref))) b r.2 := fun j b r h1 h2 => (br j b r h1 h2).tk (tk_same (same_new ng))
      generalize upd H4 g2 (.tup (bs.map V.ref)) = H5 at s5 e5 br5 nx ndx ⊢
      have s6 : Same H5 (upd (upd H5 dx (.own x)) x (.ins CP dx [])) := (same_new ndx).trans (same_new (by rw [upd_ne ne.symm]; exact nx))
      have e6 : (upd (upd H5 dx (.own x)) x (.ins CP dx [])) x = some (.ins CP dx []) := upd_same
      generalize upd (upd H5 dx (.own x)) x (.ins CP dx []) = H6 at s6 e6 ⊢
      have rsA : ∀ {H' : Hp}, Same H5 H' → RulesAt H' g2 (σ.rules.map (·.2)) := fun sm => ⟨bs, sm _ _ e5, by rw [List.length_map, bl], fun j b q h1 h2 => by
        rw [List.getElem?_map] at h2
        obtain ⟨r, hr, rfl⟩ := Option.map_eq_some_iff.mp h2
        exact (br5 j b r h1 hr).tk (tk_same sm)⟩
      refine ⟨x, dx, tp, g2, σ.tops, σ.rules.map (·.2), rfl, e6, s6 _ _ (s5 _ _ st.ft), rsA s6, p1, p2, p3, by rw [List.length_map]; exact p4, p5, fun H' k ex => ⟨rfl, ?_⟩⟩
      have s7 : Same H5 H' := fun b o e => k b o (fun z => by rw [z, nx] at e; cases e) (s6 _ _ e)
      exact q H' x (s5.trans s7) ⟨dx, tp, g2, ex, s7 _ _ (s5 _ _ st.ft), rsA s7⟩
end
end K66

set_option Elab.async false
set_option linter.all false
set_option maxRecDepth 100000
namespace K66
open PySem PySem.Spec PyProof.Rows L2 NB

/-! ### the counts of shared rules -/
def cntAt (σ : Sta) (t : Nat) (n : Int) : Int := match σ.hands[t]? with
  | some h => (match look h.rows n with | some z => z.2 | none => 0)
  | none => 0
def Holds (σ : Sta) (t : Nat) (r : Int × Rl) : Prop := ∃ h c, σ.hands[t]? = some h ∧ look h.rows r.1 = some (r.2, c)
theorem Holds.cnt {σ : Sta} {t : Nat} {r : Int × Rl} {h : Hd} {c : Int} (e : σ.hands[t]? = some h) (l : look h.rows r.1 = some (r.2, c)) : cntAt σ t r.1 = c := by
  unfold cntAt
  rw [e]
  show (match look h.rows r.1 with | some z => z.2 | none => 0) = c
  rw [l]
def shRow (σ : Sta) (r : Int × Rl) : Int × Rl × Int × Int := (r.1, r.2, cntAt σ r.2.1.1 r.1, cntAt σ r.2.2.1 r.1)
def shCs (σ : Sta) (rs : List (Int × Rl)) : List (Int × Rl × Int × Int) := (rs.filter fun r => shrd r.2).map (shRow σ)
def CsAt (H : Hp) (as : List Addr) (rows : List (Int × Rl × Int × Int)) : Prop := as.length = rows.length ∧ ∀ (i : Nat) a r, as[i]? = some a → rows[i]? = some r → ∃ p, H a = some (.tup [.int r.1, .ref p, .int r.2.2.1, .int r.2.2.2]) ∧ RuleAt H p r.2.1
theorem CsAt.tk {H H' : Hp} {as : List Addr} {rows : List (Int × Rl × Int × Int)} (a : CsAt H as rows) (k : TupK H H') : CsAt H' as rows := ⟨a.1, fun i z r h1 h2 => by
  obtain ⟨p, e1, e2⟩ := a.2 i z r h1 h2
  exact ⟨p, k _ _ e1, e2.tk k⟩⟩
theorem CsAt.snoc {H : Hp} {as : List Addr} {rows : List (Int × Rl × Int × Int)} {a p : Addr} {r : Int × Rl × Int × Int} (h : CsAt H as rows) (e1 : H a = some (.tup [.int r.1, .ref p, .int r.2.2.1, .int r.2.2.2])) (e2 : RuleAt H p r.2.1) : CsAt H (as ++ [a]) (rows ++ [r]) := by
  have l := h.1
  refine ⟨by rw [List.length_append, List.length_append, l]; rfl, fun i z r' h1 h2 => ?_⟩
  rcases Nat.lt_or_ge i as.length with c | c
  · rw [List.getElem?_append_left c] at h1
    rw [List.getElem?_append_left (by omega)] at h2
    exact h.2 i z r' h1 h2
  · have hl := (List.getElem?_eq_some_iff.mp h1).1
    rw [List.length_append, List.length_singleton] at hl
    have i0 : i = as.length := by omega
    rw [i0, List.getElem?_append_right (Nat.le_refl _), Nat.sub_self] at h1
    rw [i0, l, List.getElem?_append_right (Nat.le_refl _), Nat.sub_self] at h2
    cases h1
    cases h2
    exact ⟨p, e1, e2⟩
def spShCs (CS C : Addr) : Sp := fun vs H Q _ => ∃ (s : Addr) (own : List Addr) (σ : Sta), vs = [.ref s] ∧ StX CS C H s own σ ∧ Rsg σ ∧ (∀ r ∈ σ.rules, shrd r.2 = true → Holds σ r.2.1.1 r ∧ Holds σ r.2.2.1 r) ∧
  ∀ H' g as, Same H H' → H' g = some (.lst (as.map V.ref)) → CsAt H' as (shCs σ σ.rules) → Q (.ref g) H'
section
variable {P : Program} {w : World} {K : PySem.W.Frag} {mg : Str → Option Value} {base : Heap}
abbrev a_shared_counts : Stmt := topS 51
abbrev n_shared_counts : List Str := ["state", "rows", "number", "rule", "first", "second", "side"]
theorem sc_shared_counts : FnScope n_shared_counts ["state"] (defScope a_shared_counts) := ⟨rfl, rfl, rfl, by decide +kernel, rfl, by decide +kernel, by decide +kernel⟩
set_option maxHeartbeats 8000000 in
theorem ok_shared_counts {f fNu fIs : Addr} {fd fdNu fdIs : FuncData} {k : Nat} {CS C : Addr} (F : Fun K "shared_counts" "shared_counts" a_shared_counts f fd) (Nu : Kn P w K mg base 1 "numbered_rules" ["state"] (spNumb CS C) fNu fdNu) (Is : Kn P w K mg base 1 "is_shared" ["rule"] spShrd fIs fdIs) (Co : C8.Met P w K mg base 4 C "count_of" (spCount C) []) (XS : StateTxt K CS) (X : HandTxt K C)  : FnOk P w K mg base CX0 (k + 5) f fd ["state"] (spShCs CS C) := by
  refine F.ok sc_shared_counts (fun vs H Q E h => ?_) (fun cdv A outer s H vs Q E hr h => ?_)
  · obtain ⟨s, own, σ, rfl, _⟩ := h
    rfl
  · obtain ⟨s, own, σ, rfl, hs, rg, hh, q⟩ := h
    refine ⟨_, (pss_cons (ps_set (i := 1) sc_shared_counts.nd rfl (.inl rfl) (pe_lst pa_nil))
      (pss_cons (ps_for PassesOwn.never rfl (pi_tup (pe_kn Nu hr (by omega) (pa_cons (pv 0) pa_nil))) (pg_tup rfl (pgs_cons (pg_name (i := 2) sc_shared_counts.nd rfl (.inr rfl)) (pgs_cons (pg_name (i := 3) sc_shared_counts.nd rfl (.inl rfl)) pgs_nil)))
        (pss_one (ps_if (pt_val (pe_kn Is hr (by omega) (pa_cons (pv 3) pa_nil))) (pss_cons (ps_asg (
        pe_lc (own := [("side", 6)]) (g := (gName 6)) (tt := tYes) (te := (tMeth C "count_of" (spCount C) [] E0 (tOp (rIxL K) (tFld K (tVar 0) "hands") (tOp (rIxT K) (tVar 6) (tC (.int 0)))) (tCons (tVar 2) tNil))) rfl sc_shared_counts.nd (pi_tup (pv 3)) (blkOk_by (N := n_shared_counts) (sc := defScope a_shared_counts) (by decide +kernel))
          (fun _ _ _ _ _ => (pg_name (i := 6) sc_shared_counts.nd rfl (.inl rfl) (hf := .inr rfl))) (fun _ _ _ _ _ => pts_nil) (fun _ _ _ _ _ => (C8.pe_mt Co hr (by omega) (pe_ix (r := rIxL K) ix_list (pe_fld (pv 0) rfl) (pe_ix (r := rIxT K) ix_tup (pv 6) pe_int (fun _ _ => rfl)) (fun _ _ => rfl)) (pa_cons (pv 2) pa_nil)))) (pg_lst rfl (pgs_cons (pg_name (i := 4) sc_shared_counts.nd rfl (.inl rfl)) (pgs_cons (pg_name (i := 5) sc_shared_counts.nd rfl (.inl rfl)) pgs_nil))))
      (pss_one (ps_expr (pe_bm PySem.F.plainAttrs_list PySem.F.slot_list_append PySem.F.type_list_append mt_append (pv 1) (pa_cons (pe_tup (pa_cons (pv 2) (pa_cons (pv 3) (pa_cons (pv 4) (pa_cons (pv 5) pa_nil))))) pa_nil))))) pss_nil)))
      (pss_one (ps_ret (pv 1))))), ?_⟩
    obtain ⟨ds, tp, R, Hs, Ls, zs, rs, ls, eo, st⟩ := id hs
    refine ⟨(show 0 ≤ sizeLine by decide), fun L nL => ?_⟩
    have s0 := same_new (o := HO.lst []) nL
    have l0 : (upd H L (.lst [])) L = some (.lst []) := upd_same
    generalize upd H L (.lst []) = H0 at s0 l0 ⊢
    refine ⟨.ref s, rfl, s, own, σ, rfl, hs.same s0, rg, fun H1 g as s1 eg nb => ⟨g, rfl, ⟨_, .inl (.inl eg)⟩, for_it (walk_tup (xs := as.map V.ref)) (fun i σ' H' => (∃ u2 u3 u4 u5 u6, σ' = [some (.ref s), some (.ref L), u2, u3, u4, u5, u6]) ∧ Same H H' ∧ H' g = some (.tup (as.map V.ref)) ∧ NbAt H' as σ.rules ∧ ∃ bs : List Addr, H' L = some (.lst (bs.map V.ref)) ∧ CsAt H' bs (shCs σ (σ.rules.take i)))
      ⟨⟨none, none, none, none, none, rfl⟩, s0.trans s1, eg, nb, [], s1 _ _ l0, rfl, fun j b r e => by rw [List.getElem?_nil] at e; cases e⟩ (fun i σ' H' _ p => .inl (.inl p.2.2.1)) (fun i v σ' H4 H4' hi p yy => ?_) (fun σ' H4 p => ?_)⟩⟩
    · obtain ⟨⟨u2, u3, u4, u5, u6, rfl⟩, s4, eg4, nb4, bs, eL, cs⟩ := p
      obtain ⟨rfl, gv⟩ := yy
      obtain ⟨a, ea, rfl⟩ := mapGet gv
      have il : i < σ.rules.length := by rw [← nb.1]; simpa using hi
      have er : σ.rules[i]? = some σ.rules[i] := List.getElem?_eq_getElem il
      have hr0 := hh _ (List.getElem_mem il)
      generalize σ.rules[i] = r0 at er hr0
      obtain ⟨p, e1, e2⟩ := nb4.2 i a r0 ea er
      refine ⟨a, _, rfl, .inl (.inl e1), rfl, _, _, rfl, _, _, rfl, rfl, ?_⟩
      refine ⟨.ref p, rfl, p, r0.2, rfl, e2, ?_⟩
      cases c : shrd r0.2 with
      | false =>
        refine ⟨_, rfl, iteF ⟨⟨_, _, _, _, _, rfl⟩, s4, eg4, nb4, bs, eL, ?_⟩⟩
        rw [List.take_add_one, er]
        show CsAt _ _ (shCs σ (σ.rules.take i ++ [r0]))
        unfold shCs
        rw [List.filter_append, List.map_append]
        simp only [List.filter_cons, c, List.filter_nil, List.map_nil, List.append_nil, Bool.false_eq_true, if_false]
        exact cs
      | true =>
        have hr1 := hr0 c
        obtain ⟨p1, p2, e3, h1, h2⟩ := id e2
        refine ⟨_, rfl, iteT ?_⟩
        refine ⟨.ref p, rfl, p, rfl, ⟨_, .inl (.inl e3)⟩, fun D nD => lc_it (walk_tup (xs := [V.ref p1, V.ref p2])) (fun j H' => Same H4' H' ∧ H' D = some (.lst ((([r0.2.1, r0.2.2].take j).map fun sd : Sd => cntAt σ sd.1 r0.1).map V.int))) ⟨same_new nD, upd_same⟩ (fun j H' _ p => .inl (.inl (p.1 _ _ e3))) (fun j v H5' H5 hj p yy => ?_) (fun H5 p => ?_)⟩
        · obtain ⟨s5, eD⟩ := p
          obtain ⟨rfl, gv⟩ := yy
          have st5 := st.same (s4.trans s5)
          have two : ∃ pj sd, v = .ref pj ∧ SideAt H4' pj sd ∧ [r0.2.1, r0.2.2][j]? = some sd ∧ Holds σ sd.1 r0 := by
            match j, hj, gv with
            | 0, _, gv => exact ⟨p1, r0.2.1, (Option.some.inj gv).symm, h1, rfl, hr1.1⟩
            | 1, _, gv => exact ⟨p2, r0.2.2, (Option.some.inj gv).symm, h2, rfl, hr1.2⟩
            | j + 2, hj, _ => exact absurd hj (by simp)
          obtain ⟨pj, sd, rfl, hsd, ej, h, cc, eh, lk⟩ := two
          have hsd5 : H5 pj = some (.tup [.int (sd.1 : Int), .str (word sd.2.1), .int sd.2.2]) := s5 _ _ hsd
          have tl : sd.1 < zs.length := by
            rw [st.fhs.len]
            exact (List.getElem?_eq_some_iff.mp eh).1
          have ez : zs[sd.1]? = some zs[sd.1] := List.getElem?_eq_getElem tl
          generalize zs[sd.1] = z at ez
          obtain ⟨h', eh', a0, _⟩ := st5.fhs.get ez
          have hh' : h' = h := Option.some.inj (eh'.symm.trans eh)
          subst hh'
          have a1 := a0
          obtain ⟨dx, v, hs', g0, _, _, _, _⟩ := a1
          have g0' : H5 z.1 = some (.ins C dx [("thing", .int (h'.thing : Int)), ("place", .int h'.place), ("wish", v), ("held", .ref z.2.1), ("tally", .ref z.2.2)]) := g0
          refine ⟨rfl, .ref s, rfl, s, CS, ds, _, _, rfl, st5.fs, XS.cl, XS.n3, sk3, .ref pj, rfl, pj, _, 0, _, rfl, rfl, .inl (.inl hsd5), atI_nat (j := 0) rfl, Hs, _, (sd.1 : Int), _, rfl, rfl, .inl (.inl st5.fh), atI_nat (j := sd.1) (by rw [List.getElem?_map, ez]; rfl), z.1, dx, _, rfl, g0', rfl, .int r0.1, rfl, z.1, z.2.1, z.2.2, h', r0.1, r0.2, cc, rfl, a0, lk, c, fun H6 s6 => ⟨_, s6 _ _ eD, ?_, same_over (s5.trans s6) nD, ?_⟩⟩
          · rw [List.length_map, List.length_map, List.length_take]
            exact small1000 (by simp; omega)
          · rw [upd_same, List.take_add_one, ej]
            simp only [Option.toList, List.map_append, List.map_cons, List.map_nil, Holds.cnt eh lk]
        · obtain ⟨s5, eD⟩ := p
          have eD2 : H5 D = some (.lst [.int (cntAt σ r0.2.1.1 r0.1), .int (cntAt σ r0.2.2.1 r0.1)]) := eD
          have eL5 := s5 _ _ eL
          refine ⟨D, _, rfl, .inl (.inl eD2), rfl, _, _, rfl, _, _, rfl, rfl, .ref L, rfl, .inl ⟨rfl, _, .inl (.inl eL5)⟩, .int r0.1, rfl, .ref p, rfl, .int (cntAt σ r0.2.1.1 r0.1), rfl, .int (cntAt σ r0.2.2.1 r0.1), rfl, (show 4 ≤ sizeLine by decide), fun N nN => ?_⟩
          have s6 := s5.trans (same_new (o := HO.tup [.int r0.1, .ref p, .int (cntAt σ r0.2.1.1 r0.1), .int (cntAt σ r0.2.2.1 r0.1)]) nN)
          have n6 : (upd H5 N (HO.tup [.int r0.1, .ref p, .int (cntAt σ r0.2.1.1 r0.1), .int (cntAt σ r0.2.2.1 r0.1)])) N = some (.tup [.int r0.1, .ref p, .int (cntAt σ r0.2.1.1 r0.1), .int (cntAt σ r0.2.2.1 r0.1)]) := upd_same
          generalize upd H5 N (HO.tup [.int r0.1, .ref p, .int (cntAt σ r0.2.1.1 r0.1), .int (cntAt σ r0.2.2.1 r0.1)]) = H6 at s6 n6 ⊢
          have eL6 := s6 _ _ eL
          have kL : TupK H6 (upd H6 L (.lst (bs.map V.ref ++ [.ref N]))) := fun b xs e => (upd_ne (fun w => by rw [w, eL6] at e; cases e)).trans e
          have kLn : ∀ b o, b ≠ L → H6 b = some o → (upd H6 L (.lst (bs.map V.ref ++ [.ref N]))) b = some o := fun b o n e => (upd_ne n).trans e
          have bl : bs.length ≤ 60 := by
            rw [cs.1]
            unfold shCs
            rw [List.length_map]
            refine Nat.le_trans (List.length_filter_le _ _) ?_
            rw [List.length_take]
            have := rg.2
            omega
          have sL : Same H (upd H6 L (.lst (bs.map V.ref ++ [.ref N]))) := same_over (s4.trans s6) nL
          refine ⟨L, _, _, rfl, rfl, eL6, by rw [List.length_map]; exact small1000 (by omega), ⟨_, _, _, _, _, rfl⟩, sL, kL _ _ (s6 _ _ eg4), (nb4.tk (tk_same s6)).tk kL, bs ++ [N], by rw [upd_same, List.map_append]; rfl, ?_⟩
          rw [List.take_add_one, er]
          show CsAt _ _ (shCs σ (σ.rules.take i ++ [r0]))
          have e7 : shCs σ (σ.rules.take i ++ [r0]) = shCs σ (σ.rules.take i) ++ [shRow σ r0] := by
            unfold shCs
            rw [List.filter_append, List.map_append]
            simp only [List.filter_cons, c, List.filter_nil, List.map_cons, List.map_nil, if_true]
          rw [e7]
          exact ((cs.tk (tk_same s6)).tk kL).snoc (r := shRow σ r0) (kL _ _ n6) ((e2.tk (tk_same s6)).tk kL)
    · obtain ⟨⟨u2, u3, u4, u5, u6, rfl⟩, s4, eg4, nb4, bs, eL, cs⟩ := p
      have tk : σ.rules.take (as.map V.ref).length = σ.rules := List.take_of_length_le (by rw [List.length_map, nb.1]; exact Nat.le_refl _)
      rw [tk] at cs
      exact ⟨.ref L, rfl, q H4 L bs s4 eL cs⟩
end
end K66

set_option Elab.async false
set_option linter.all false
set_option maxRecDepth 100000
set_option maxHeartbeats 1000000
/-! Methods of own classes that may raise. -/
namespace NB
open PySem PySem.Spec PyProof.Rows L2
structure MetX (P : Program) (w : World) (K : PySem.W.Frag) (mg : Str → Option Value) (base : Heap) (k : Nat) (C : Addr) (m : Str) (sp : Sp) : Prop where
  ex : ∃ (f : Addr) (fd : FuncData) (ps : List Str), Cls K C ∧ Meth K C m f ∧ FnOk P w K mg base (L2.CX P w) k f fd ps sp ∧ Binds K fd ps []
/-- a method that raises nothing where its promise is so -/
theorem MetX.no {P : Program} {w : World} {K : PySem.W.Frag} {mg : Str → Option Value} {base : Heap} {k : Nat} {C : Addr} {m : Str} {sp sp' : Sp} (c : MetX P w K mg base k C m sp) (h : ∀ vs H Q E, sp' vs H Q E → sp vs H Q E0) : C8.Met P w K mg base k C m sp' [] := by
  obtain ⟨f, fd, ps, hc, hm, F, b⟩ := c.ex
  exact ⟨f, fd, ps, [], hc, hm, NB.FnOk.noX F h, b, .nil⟩
section
variable {X : Cx} {k j : Nat} {C : Addr} {m : Str} {sp : Sp} {pos apos : Pos} {o e : Expr} {es : List Expr} {ta : TE} {t : TA} {E : XK}
/-- where what it raises goes on -/
theorem pe_mtP {pl : Sem Bool} (c : MetX X.prog X.w X.K X.mg X.base k C m sp) (hr : Room j X.A) (hk : k ≤ j) (tk : Takes X (fun cls d _ H => E cls d H)) (he : PE X o ta) (ha : PA X (e :: es) t)
    (hst : starEach (e :: es) X.env = (false, eval e X.env) :: starEach es X.env := by rfl) (hpl : (backTo pos (starEach es X.env)).any (·.1) = false := by rfl)
    (ht : eval (.Call (.Attribute o m apos) (e :: es) [] pos) X.env = (do
      let ov ← eval o X.env
      standAt apos.atName
      let (f, first) ← holding [ov] (getMethod ov m pl)
      callWith pos f first (backTo pos (starEach (e :: es) X.env)) (backToKw pos (keywordEach [] X.env))) := by rfl) :
    PE X (.Call (.Attribute o m apos) (e :: es) [] pos) (tMeth C m sp [] E ta t) := by
  obtain ⟨f, fd, ps, hc, hm, F, b⟩ := c.ex
  exact pe_meth (pl := pl) he hc hm F (hr.mono hk) b .nil (passes_call tk (fun _ _ _ _ h => h)) ha hst hpl ht
end
end NB

set_option Elab.async false
set_option linter.all false
set_option maxRecDepth 100000
namespace K66
open PySem PySem.Spec PyProof.Rows L2 NB

/-! ### kinds, of anything -/
def placeD (t : Int) : PyData → Bool
  | .int i => decide (0 ≤ i) && decide (i ≤ t)
  | _ => false
def natD : PyData → Nat
  | .int i => i.toNat
  | _ => 0
def wordD (d : PyData) : Bool := strIs "from" d || strIs "to" d
def sideD (tops : List Int) : PyData → Bool
  | .tuple ds => decide (ds.length = 3) && (placeD ((tops.length : Int) - 1) (ds.getD 0 .none) && (wordD (ds.getD 1 .none) && placeD (tops.getD (natD (ds.getD 0 .none)) 0) (ds.getD 2 .none)))
  | _ => false
theorem str_or (d : PyData) : (∃ z, d = .str z) ∨ isStrD d = false := by
  cases d with
  | str z => exact .inl ⟨z, rfl⟩
  | _ => exact .inr rfl
theorem side_no {tops : List Int} {d : PyData} (h : isTupD d = false) : sideD tops d = false := by
  cases d with
  | tuple ds => cases h
  | _ => rfl
theorem word_no {d : PyData} (h : isStrD d = false) : wordD d = false := by
  cases d with
  | str z => cases h
  | _ => rfl
theorem place_int {t : Int} {d : PyData} (h : placeD t d = true) : ∃ i : Nat, d = .int i ∧ (i : Int) ≤ t := by
  cases d with
  | int i =>
    have h' : (decide (0 ≤ i) && decide (i ≤ t)) = true := h
    simp at h'
    exact ⟨i.toNat, by rw [Int.toNat_of_nonneg h'.1], by omega⟩
  | _ => cases h
theorem getD_at {xs : List Int} {i : Nat} (h : i < xs.length) : xs.getD i 0 = xs[i] := by
  rw [List.getD_eq_getElem?_getD, List.getElem?_eq_getElem h]
  rfl
section
variable {P : Program} {w : World} {K : PySem.W.Frag} {mg : Str → Option Value} {base : Heap}
def spLookI (g : Int → PyData → Bool) : Sp := fun vs H Q _ => ∃ (n : Addr) (t : Int) (v : V) (d : PyData), vs = [.int t, v] ∧ Da n H v d ∧ ∀ H', Same H H' → Q (.bl (g t d)) H'
def spLookT (g : List Int → PyData → Bool) : Sp := fun vs H Q _ => ∃ (n t : Addr) (tops : List Int) (v : V) (d : PyData), vs = [.ref t, v] ∧ H t = some (.tup (tops.map V.int)) ∧ Da n H v d ∧ ∀ H', Same H H' → Q (.bl (g tops d)) H'
abbrev a_is_place : Stmt := topS 14
abbrev n_is_place : List Str := ["top", "thing"]
theorem sc_is_place : FnScope n_is_place ["top", "thing"] (defScope a_is_place) := ⟨rfl, rfl, rfl, by decide +kernel, rfl, by decide +kernel, by decide +kernel⟩
set_option maxHeartbeats 8000000 in
theorem ok_is_place {f fWh : Addr} {fd fdWh : FuncData} {k : Nat}  (F : Fun K "is_place" "is_place" a_is_place f fd) (Wh : Kn P w K mg base 1 "is_whole" ["thing"] (spLook wholeD) fWh fdWh)   : FnOk P w K mg base CX0 (k + 2) f fd ["top", "thing"] (spLookI placeD) := by
  refine F.ok sc_is_place (fun vs H Q E h => ?_) (fun cdv A outer s H vs Q E hr h => ?_)
  · obtain ⟨n, t, v, d, rfl, _⟩ := h
    rfl
  · obtain ⟨n, t, v, d, rfl, hd, q⟩ := h
    refine ⟨_, (pss_one (ps_ret (pe_and (pe_kn Wh hr (by omega) (pa_cons (pv 1) pa_nil)) (pe_one (pe_chain op_le op_le pe_int (pv 1) (pv 0)))))), ?_⟩
    refine ⟨v, rfl, n, v, d, rfl, hd, fun H1 s1 => ⟨_, rfl, ?_⟩⟩
    cases hd with
    | int i =>
      refine iteT ⟨_, rfl, 0, i, rfl, rfl, _, rfl, ite2 (fun c => ?_) (fun c => ?_)⟩
      · have := q H1 s1
        rw [show placeD t (.int i) = decide (i ≤ t) from by show (decide (0 ≤ i) && _) = _; rw [show decide (0 ≤ i) = true from c, Bool.true_and]] at this
        exact ⟨_, rfl, i, t, rfl, rfl, this⟩
      · have := q H1 s1
        rw [show placeD t (.int i) = false from by show (decide (0 ≤ i) && _) = _; rw [Bool.eq_false_iff.mpr c, Bool.false_and]] at this
        exact this
    | _ => exact iteF (q H1 s1)
end

/-! ### standings of anything -/
def standingD (tops : List Int) : PyData → Bool
  | .tuple ds => decide (ds.length = tops.length) && (tops.zip ds).all fun p => placeD p.1 p.2
  | _ => false
theorem standing_no {tops : List Int} {d : PyData} (h : isTupD d = false) : standingD tops d = false := by
  cases d with
  | tuple ds => cases h
  | _ => rfl
theorem zip_at {α β : Type} {xs : List α} {ys : List β} {i : Nat} {x : α} {y : β} (h : xs[i]? = some x) (h' : ys[i]? = some y) : (xs.zip ys)[i]? = some (x, y) := by
  rw [List.getElem?_zip_eq_some]
  exact ⟨h, h'⟩
section
variable {P : Program} {w : World} {K : PySem.W.Frag} {mg : Str → Option Value} {base : Heap}
/-- a plan of which the tops are known -/
def PlanTo (C : Addr) (H : Hp) (x t : Addr) (tops : List Int) : Prop := ∃ (dx R : Addr), H x = some (.ins C dx [("tops", .ref t), ("rules", .ref R)]) ∧ H t = some (.tup (tops.map V.int))
theorem PlanTo.same {C : Addr} {H H' : Hp} {x t : Addr} {tops : List Int} (h : PlanTo C H x t tops) (s : Same H H') : PlanTo C H' x t tops := by
  obtain ⟨dx, R, e, et⟩ := h
  exact ⟨dx, R, s _ _ e, s _ _ et⟩
theorem lookT (t R : Addr) : ([("tops", V.ref t), ("rules", V.ref R)] : List (Str × V)).lookup ("tops" : Str) = some (V.ref t) := by
  simp [List.lookup]
def spPlanLook (C : Addr) (g : List Int → PyData → Bool) : Sp := fun vs H Q _ => ∃ (n x t : Addr) (tops : List Int) (v : V) (d : PyData), vs = [.ref x, v] ∧ PlanTo C H x t tops ∧ tops.length ≤ 12 ∧ Da n H v d ∧ ∀ H', Same H H' → Q (.bl (g tops d)) H'
abbrev a_is_standing : Stmt := topS 21
abbrev n_is_standing : List Str := ["plan", "thing", "top", "place"]
theorem sc_is_standing : FnScope n_is_standing ["plan", "thing"] (defScope a_is_standing) := ⟨rfl, rfl, rfl, by decide +kernel, rfl, by decide +kernel, by decide +kernel⟩
set_option maxHeartbeats 8000000 in
theorem ok_is_standing {f fPc : Addr} {fd fdPc : FuncData} {k : Nat} {C : Addr} (F : Fun K "is_standing" "is_standing" a_is_standing f fd) (Pc : Kn P w K mg base 2 "is_place" ["top", "thing"] (spLookI placeD) fPc fdPc) (T : PlanTxt K mg C) (m_all : mg "all" = none) (m_isinstance : mg "isinstance" = none) (m_len : mg "len" = none) (m_tuple : mg "tuple" = none) (m_zip : mg "zip" = none) : FnOk P w K mg base CX0 (k + 3) f fd ["plan", "thing"] (spPlanLook C standingD) := by
  refine F.ok sc_is_standing (fun vs H Q E h => ?_) (fun cdv A outer s H vs Q E hr h => ?_)
  · obtain ⟨n, x, t, tops, v, d, rfl, _⟩ := h
    rfl
  · obtain ⟨n, x, t, tops, v, d, rfl, ⟨dx, R, ex, et⟩, l12, hd, q⟩ := h
    refine ⟨_, (pss_cons (ps_if (PW.pt (pw_or (pt_not (pt_val (pe_callB call_isiD (by rfl) m_isinstance (by decide +kernel) (pa_cons (pv 1) (pa_cons (pe_bltn (v := .ty "tuple") (u := .type "tuple") (by rfl) m_tuple (by decide +kernel) rfl) pa_nil))))) (pw_or1 (pt_cmpR op_ne (pe_callB call_len_seq (by rfl) m_len (by decide +kernel) (pa_cons (pv 1) pa_nil)) (pe_callB call_len_seq (by rfl) m_len (by decide +kernel) (pa_cons (pe_fld (pv 0) rfl) pa_nil)) (nomark _))))) (pss_one (ps_ret pe_bl)) pss_nil)
      (pss_one (ps_ret (pe_callB (cr_all rfl) (by rfl) m_all (by decide +kernel) (pa_cons (
        pe_lc (own := [("top", 2), ("place", 3)]) (g := (gTup K 2 (gCons (gName 2) (gCons (gName 3) gNil)))) (tt := tYes) (te := (tCall (spLookI placeD) [] E0 (tCons (tVar 2) (tCons (tVar 3) tNil)))) rfl sc_is_standing.nd (RZ.pi_zipA (by rfl) m_zip (pa_cons (pe_fld (pv 0) rfl) (pa_cons (pv 1) pa_nil))) (blkOk_by (N := n_is_standing) (sc := defScope a_is_standing) (by decide +kernel))
          (fun _ _ _ _ _ => (pg_tup rfl (pgs_cons (pg_name (i := 2) sc_is_standing.nd rfl (.inl rfl) (hf := .inr rfl)) (pgs_cons (pg_name (i := 3) sc_is_standing.nd rfl (.inl rfl) (hf := .inr rfl)) pgs_nil)))) (fun _ _ _ _ _ => pts_nil) (fun _ _ _ _ _ => (pe_kn Pc hr (by omega) (pa_cons (pv 2) (pa_cons (pv 3) pa_nil))))) pa_nil))))), ?_⟩
    rcases tup_or d with ⟨ds, rfl⟩ | hn
    · cases hd with
      | tup e ha =>
      rename_i a xs
      have ll := ha.len
      have eS : standingD tops (.tuple ds) = (decide (ds.length = tops.length) && (tops.zip ds).all fun p => placeD p.1 p.2) := rfl
      rw [eS] at q
      refine ⟨_, rfl, n, _, _, "tuple", _, rfl, .tup e ha, kit_tup _, _, rfl, iteF ⟨_, rfl, a, xs, rfl, .inr (.inl (.inl e)), _, rfl, x, C, dx, _, _, rfl, ex, T.cl, T.nT, lookT t R, t, _, rfl, .inr (.inl (.inl et)), rfl, _, rfl, ite2 (fun c => ?_) (fun c => ?_)⟩⟩
      · have c' : ¬ ds.length = tops.length := fun z => by
          rw [List.length_map, ll, z] at c
          simp at c
        rw [decide_eq_false c', Bool.false_and] at q
        exact q H (Same.refl H)
      · have c' : ds.length = tops.length := Classical.byContradiction fun z => c (by
          have : ¬ ((xs.length : Int) = tops.length) := by omega
          rw [List.length_map]
          simp [this])
        rw [decide_eq_true c', Bool.true_and] at q
        refine ⟨_, rfl, x, C, dx, _, _, rfl, ex, T.cl, T.nT, lookT t R, _, rfl, t, a, _, _, rfl, .inr ⟨.inl (.inl et), .inl (.inl e), fun D nD => lc_it (walk_zipT (xs := tops.map V.int) (ys := xs) (by rw [List.length_map]; omega)) (fun i H' => Same H H' ∧ H' D = some (.lst ((((tops.zip ds).take i).map fun p => placeD p.1 p.2).map V.bl))) ⟨same_new nD, upd_same⟩ (fun i H' _ p => ⟨.inl (.inl (p.1 _ _ et)), .inl (.inl (p.1 _ _ e))⟩) (fun i v H1 H2 hi p y => ?_) (fun H' p => ?_)⟩⟩
        · obtain ⟨sm, eD⟩ := p
          obtain ⟨T', x1, x2, rfl, nT, rfl, g1, g2⟩ := y
          obtain ⟨tp, et', rfl⟩ := mapGet g1
          obtain ⟨dd, ed, hdd⟩ := ha.get i x2 g2
          have sT := same_new (o := HO.tup [V.int tp, x2]) nT
          refine ⟨T', _, rfl, .inl (.inl upd_same), rfl, _, _, rfl, _, _, rfl, rfl, rfl, .int tp, rfl, x2, rfl, n, tp, x2, dd, rfl, (hdd.same sm).same sT, fun H4 s4 => ⟨_, s4 _ _ (sT _ _ eD), ?_, same_over ((sm.trans sT).trans s4) nD, ?_⟩⟩
          · rw [List.length_map, List.length_map, List.length_take, List.length_zip]
            exact small1000 (by omega)
          · rw [upd_same, all_take (fun p : Int × PyData => placeD p.1 p.2) _ i (tp, dd) (zip_at et' ed)]
        · obtain ⟨sm, eD⟩ := p
          rw [List.take_of_length_le (by rw [List.length_zip, List.length_map]; omega)] at eD
          refine ⟨D, _, rfl, .inl (.inl eD), ?_⟩
          rw [all_id]
          exact q H' sm
    · refine ⟨_, rfl, n, _, d, "tuple", _, rfl, hd, kit_tup d, _, rfl, ?_⟩
      rw [hn]
      rw [standing_no hn] at q
      exact iteT (q H (Same.refl H))
end
end K66

set_option Elab.async false
set_option linter.all false
set_option maxRecDepth 100000
namespace K66
open PySem PySem.Spec PyProof.Rows L2 NB

/-! ### standings -/
def kept (st : List Int) (q : Rl) : Bool := inB st q.1 || inB st q.2
/-- the numbers of the rules that are broken -/
def brok (st : List Int) (rs : List Rl) : List Int := rs.zipIdx.filterMap fun p => if kept st p.1 then none else some (p.2 : Int)
theorem brok_take (st : List Int) (rs : List Rl) (i : Nat) (q : Rl) (h : rs[i]? = some q) : brok st (rs.take (i + 1)) = brok st (rs.take i) ++ (if kept st q then [] else [(i : Int)]) := by
  have hi : i < rs.length := (List.getElem?_eq_some_iff.mp h).1
  have hl : (rs.take i).length = i := by rw [List.length_take]; omega
  unfold brok
  rw [List.take_add_one, h, List.zipIdx_append, List.filterMap_append, hl]
  congr 1
  show List.filterMap _ [(q, 0 + i)] = _
  simp only [List.filterMap_cons, List.filterMap_nil, Nat.zero_add]
  split <;> split <;> simp_all
theorem brok_len (st : List Int) (rs : List Rl) : (brok st rs).length ≤ rs.length := by
  unfold brok
  refine Nat.le_trans (List.length_filterMap_le _ _) ?_
  rw [List.length_zipIdx]
  exact Nat.le_refl _
theorem brok_nil (st : List Int) (rs : List Rl) : (brok st rs = []) ↔ rs.all (kept st) = true := by
  unfold brok
  rw [List.filterMap_eq_nil_iff, List.all_eq_true]
  constructor
  · intro h q hq
    obtain ⟨i, hi, e⟩ := List.getElem_of_mem hq
    have := h (q, i) (by rw [List.mem_zipIdx_iff_getElem?]; simp [hi, e])
    cases c : kept st q with
    | true => rfl
    | false => rw [c] at this; simp at this
  · rintro h ⟨q, i⟩ hq
    have hm : q ∈ rs := List.mem_of_getElem? (by rw [List.mem_zipIdx_iff_getElem?] at hq; exact hq)
    simp [h q hm]
theorem eqv_ints : ∀ xs ys : List Int, PyData.eqvAll (xs.map PyData.int) (ys.map PyData.int) = decide (xs = ys)
  | [], [] => by simp [PyData.eqvAll]
  | [], _ :: _ => by simp [PyData.eqvAll]
  | _ :: _, [] => by simp [PyData.eqvAll]
  | x :: xs, y :: ys => by
    simp only [List.map_cons, PyData.eqvAll, PyData.eqv, eqv_ints xs ys, List.cons.injEq, Bool.decide_and]
    congr 1
theorem lay_ints : ∀ xs : List Int, PyData.canLayAll0 (xs.map PyData.int) = true
  | [] => rfl
  | x :: xs => by simp only [List.map_cons, PyData.canLayAll0, PyData.canLay0, lay_ints xs, Bool.and_self]
theorem depth_ints : ∀ xs : List Int, PyData.depthAll (xs.map PyData.int) = 0
  | [] => rfl
  | x :: xs => by simp only [List.map_cons, PyData.depthAll, PyData.depth, depth_ints xs, Nat.max_self]
theorem shaped_ints (xs : List Int) : SeqAt.shaped (.tuple (xs.map PyData.int)) = true := by
  unfold SeqAt.shaped
  simp only [PyData.canLay0, lay_ints, PyData.depth, depth_ints, Bool.true_and]
  decide
theorem dps {K : PySem.W.Frag} {H : Hp} : ∀ xs : List Int, DpAll K H (xs.map V.int) (xs.map PyData.int)
  | [] => .nil
  | x :: xs => .cons (.int x) (dps xs)
theorem dpt {K : PySem.W.Frag} {H : Hp} {p : Addr} {xs : List Int} (h : H p = some (.tup (xs.map V.int))) : Dp K H (.ref p) (.tuple (xs.map PyData.int)) := .tup (.inl (.inl h)) (dps xs)

abbrev kKept : Stmt := topS 23
theorem scKept : FnScope ["rule", "standing", "first", "second"] ["rule", "standing"] (defScope kKept) := ⟨rfl, rfl, rfl, by decide +kernel, rfl, by decide +kernel, by decide +kernel⟩
section
variable {P : Program} {w : World} {K : PySem.W.Frag} {mg : Str → Option Value} {base : Heap}

def Fit (xs : List Int) (q : Rl) : Prop := q.1.1 < xs.length ∧ q.2.1 < xs.length
def spKept : Sp := fun vs H Q _ => ∃ (r t : Addr) (rl : Rl) (xs : List Int), vs = [.ref r, .ref t] ∧ RuleAt H r rl ∧ H t = some (.tup (xs.map V.int)) ∧ Fit xs rl ∧ Q (.bl (kept xs rl)) H
theorem ok_kept {f fI : Addr} {fd fdI : FuncData} {k : Nat} (F : Fun K "is_kept" "is_kept" kKept f fd) (I' : Kn P w K mg base 1 "is_in" ["side", "standing"] spIn fI fdI) : FnOk P w K mg base CX0 (k + 2) f fd ["rule", "standing"] spKept := by
  refine F.ok scKept (fun vs H Q E h => ?_) (fun cdv A outer s H vs Q E hr h => ?_)
  · obtain ⟨r, t, rl, xs, rfl, _⟩ := h
    rfl
  · obtain ⟨r, t, rl, xs, rfl, ⟨p1, p2, er, h1, h2⟩, et, ft, q⟩ := h
    refine ⟨_, pss_cons (ps_asg (pv 0) (pg_tup (by rfl) (pgs_cons (pg_name (i := 2) scKept.nd rfl (.inl rfl)) (pgs_cons (pg_name (i := 3) scKept.nd rfl (.inl rfl)) pgs_nil))))
      (pss_one (ps_ret (pe_or (pe_kn I' hr (by omega) (pa_cons (pv 2) (pa_cons (pv 1) pa_nil))) (pe_one (pe_kn I' hr (by omega) (pa_cons (pv 3) (pa_cons (pv 1) pa_nil))))))), ?_⟩
    refine ⟨.ref r, rfl, r, _, rfl, .inl (.inl er), rfl, _, _, rfl, _, _, rfl, rfl, ?_⟩
    unfold kept at q
    refine ⟨.ref p1, rfl, .ref t, rfl, p1, t, rl.1, xs, rfl, h1, et, ft.1, _, rfl, ite2 (fun c => ?_) (fun c => ?_)⟩
    · rw [c, Bool.true_or] at q
      exact q
    · rw [Bool.eq_false_iff.mpr c, Bool.false_or] at q
      exact ⟨.ref p2, rfl, .ref t, rfl, p2, t, rl.2, xs, rfl, h2, et, ft.2, q⟩

theorem look_rules (t R : Addr) : ([("tops", V.ref t), ("rules", V.ref R)] : List (Str × V)).lookup ("rules" : Str) = some (V.ref R) := by
  have n : (("rules" : Str) == "tops") = false := by decide +kernel
  simp [List.lookup, n]
theorem look_tops (t R : Addr) : ([("tops", V.ref t), ("rules", V.ref R)] : List (Str × V)).lookup ("tops" : Str) = some (V.ref t) := by
  simp [List.lookup]

end

abbrev kI_NoPlan : Stmt := inClass (topS 3) 0
theorem sc_NoPlan : FnScope ["self", "field"] ["self", "field"] (defScope kI_NoPlan) := ⟨rfl, rfl, rfl, by decide +kernel, rfl, by decide +kernel, by decide +kernel⟩
theorem ok_NoPlan {P : Program} {w : World} {K : PySem.W.Frag} {mg : Str → Option Value} {base : Heap} {f C : Addr} {fd : FuncData} (F : Fun K "__init__" "NoPlan.__init__" kI_NoPlan f fd) (O : OexC K C) (n : PySem.W.findIn K (.ref C) "field" = some none) : FnOk P w K mg base CX0 1 f fd ["self", "field"] (spXI C "field") := by
  refine F.ok sc_NoPlan (fun vs H Q E h => ?_) (fun cdv A outer s H vs Q E hr h => ?_)
  · obtain ⟨a, v, rfl, _⟩ := h
    rfl
  · obtain ⟨a, v, rfl, ea, q⟩ := h
    exact ⟨_, pss_one (ps_ost (pv 0) (pv 1)), _, rfl, _, rfl, a, C, rfl, O, n, .inl ⟨ea, fun dx n ne => q dx n ne⟩⟩

abbrev kI_NoStanding : Stmt := inClass (topS 4) 0
theorem sc_NoStanding : FnScope ["self", "thing"] ["self", "thing"] (defScope kI_NoStanding) := ⟨rfl, rfl, rfl, by decide +kernel, rfl, by decide +kernel, by decide +kernel⟩
theorem ok_NoStanding {P : Program} {w : World} {K : PySem.W.Frag} {mg : Str → Option Value} {base : Heap} {f C : Addr} {fd : FuncData} (F : Fun K "__init__" "NoStanding.__init__" kI_NoStanding f fd) (O : OexC K C) (n : PySem.W.findIn K (.ref C) "thing" = some none) : FnOk P w K mg base CX0 1 f fd ["self", "thing"] (spXI C "thing") := by
  refine F.ok sc_NoStanding (fun vs H Q E h => ?_) (fun cdv A outer s H vs Q E hr h => ?_)
  · obtain ⟨a, v, rfl, _⟩ := h
    rfl
  · obtain ⟨a, v, rfl, ea, q⟩ := h
    exact ⟨_, pss_one (ps_ost (pv 0) (pv 1)), _, rfl, _, rfl, a, C, rfl, O, n, .inl ⟨ea, fun dx n ne => q dx n ne⟩⟩

abbrev kI_Broken : Stmt := inClass (topS 5) 0
theorem sc_Broken : FnScope ["self", "rules"] ["self", "rules"] (defScope kI_Broken) := ⟨rfl, rfl, rfl, by decide +kernel, rfl, by decide +kernel, by decide +kernel⟩
theorem ok_Broken {P : Program} {w : World} {K : PySem.W.Frag} {mg : Str → Option Value} {base : Heap} {f C : Addr} {fd : FuncData} (F : Fun K "__init__" "Broken.__init__" kI_Broken f fd) (O : OexC K C) (n : PySem.W.findIn K (.ref C) "rules" = some none) : FnOk P w K mg base CX0 1 f fd ["self", "rules"] (spXI C "rules") := by
  refine F.ok sc_Broken (fun vs H Q E h => ?_) (fun cdv A outer s H vs Q E hr h => ?_)
  · obtain ⟨a, v, rfl, _⟩ := h
    rfl
  · obtain ⟨a, v, rfl, ea, q⟩ := h
    exact ⟨_, pss_one (ps_ost (pv 0) (pv 1)), _, rfl, _, rfl, a, C, rfl, O, n, .inl ⟨ea, fun dx n ne => q dx n ne⟩⟩
end K66

set_option Elab.async false
set_option linter.all false
set_option maxRecDepth 100000
namespace K66
open PySem PySem.Spec PyProof.Rows L2 NB

/-! ### check_standing: of anything -/
def numD : PyData → Int
  | .int i => i
  | _ => 0
def numsD : PyData → List Int
  | .tuple ds => ds.map numD
  | _ => []
theorem places_at {n : Addr} {H : Hp} : ∀ {tops : List Int} {ds : List PyData} {vs : List V}, DaAll n H vs ds → ds.length = tops.length → ((tops.zip ds).all fun p => placeD p.1 p.2) = true → vs = (ds.map numD).map V.int ∧ ∀ (i : Nat) (x t : Int), (ds.map numD)[i]? = some x → tops[i]? = some t → 0 ≤ x ∧ x ≤ t
  | [], [], _, h, _, _ => by
    cases h
    exact ⟨rfl, fun i x t hi _ => by rw [List.map_nil, List.getElem?_nil] at hi; cases hi⟩
  | t :: ts, d :: ds, _, h, l, a => by
    cases h with
    | cons h1 h2 =>
      rw [List.zip_cons_cons, List.all_cons, Bool.and_eq_true] at a
      obtain ⟨i, rfl, hi⟩ := place_int a.1
      cases h1
      obtain ⟨e, b⟩ := places_at h2 (by simpa using l) a.2
      refine ⟨by rw [e]; rfl, fun j x tp h1 h2 => ?_⟩
      cases j with
      | zero =>
        cases h1
        cases h2
        exact ⟨Int.natCast_nonneg i, hi⟩
      | succ j => exact b j x tp h1 h2
theorem stand_at {n : Addr} {H : Hp} {v : V} {d : PyData} {tops : List Int} (h : Da n H v d) (s : standingD tops d = true) : ∃ p, v = .ref p ∧ H p = some (.tup ((numsD d).map V.int)) ∧ (numsD d).length = tops.length ∧ ∀ (i : Nat) (x t : Int), (numsD d)[i]? = some x → tops[i]? = some t → 0 ≤ x ∧ x ≤ t := by
  rcases tup_or d with ⟨ds, rfl⟩ | hn
  · have s' : (decide (ds.length = tops.length) && (tops.zip ds).all fun p => placeD p.1 p.2) = true := s
    rw [Bool.and_eq_true, decide_eq_true_eq] at s'
    cases h with
    | tup e ha =>
      obtain ⟨ev, b⟩ := places_at ha s'.1 s'.2
      subst ev
      exact ⟨_, rfl, e, by show (ds.map numD).length = _; rw [List.length_map]; exact s'.1, b⟩
  · rw [standing_no hn] at s
    cases s
/-- the numbers of the rules that are broken -/
def brokN (st : List Int) (rws : List (Int × Rl)) : List Int := (rws.filter fun r => !kept st r.2).map (·.1)
theorem brokN_take (st : List Int) (rws : List (Int × Rl)) (i : Nat) (r : Int × Rl) (h : rws[i]? = some r) : brokN st (rws.take (i + 1)) = brokN st (rws.take i) ++ (if kept st r.2 then [] else [r.1]) := by
  unfold brokN
  rw [List.take_add_one, h, List.filter_append, List.map_append]
  congr 1
  show (([r] : List (Int × Rl)).filter fun r => !kept st r.2).map (·.1) = _
  cases e : kept st r.2 <;> simp [List.filter, e]
theorem brokN_len (st : List Int) (rws : List (Int × Rl)) : (brokN st rws).length ≤ rws.length := by
  unfold brokN
  rw [List.length_map]
  exact List.length_filter_le _ _
section
variable {P : Program} {w : World} {K : PySem.W.Frag} {mg : Str → Option Value} {base : Heap}
def spChk (CP CN CB : Addr) : Sp := fun vs H Q E => ∃ (n x g t : Addr) (tops : List Int) (as : List Addr) (rws : List (Int × Rl)) (v : V) (d : PyData), vs = [.ref x, .ref g, v] ∧ PlanTo CP H x t tops ∧ tops.length ≤ 12 ∧ H g = some (.tup (as.map V.ref)) ∧ NbAt H as rws ∧ rws.length ≤ 60 ∧ (∀ r ∈ rws, r.2.1.1 < tops.length ∧ r.2.2.1 < tops.length) ∧ Da n H v d ∧
  (standingD tops d = false → ∀ H' dd, Same H H' → H' dd = some (.xd [("thing", v)]) → E (.ref CN) (some dd) H') ∧
  (standingD tops d = true → brokN (numsD d) rws ≠ [] → ∀ H' dd q, Same H H' → H' dd = some (.xd [("rules", .ref q)]) → H' q = some (.tup ((brokN (numsD d) rws).map V.int)) → E (.ref CB) (some dd) H') ∧
  (standingD tops d = true → brokN (numsD d) rws = [] → ∀ H', Same H H' → Q .non H')
abbrev a_check_standing : Stmt := topS 44
abbrev n_check_standing : List Str := ["plan", "numbered", "thing", "numbers", "number", "rule"]
theorem sc_check_standing : FnScope n_check_standing ["plan", "numbered", "thing"] (defScope a_check_standing) := ⟨rfl, rfl, rfl, by decide +kernel, rfl, by decide +kernel, by decide +kernel⟩
set_option maxHeartbeats 8000000 in
theorem ok_check_standing {f fIs fKe : Addr} {fd fdIs fdKe : FuncData} {k : Nat} {CP CN CB fN fB : Addr} {fdN fdB : FuncData} (F : Fun K "check_standing" "check_standing" a_check_standing f fd) (Is : Kn P w K mg base 3 "is_standing" ["plan", "thing"] (spPlanLook CP standingD) fIs fdIs) (Ke : Kn P w K mg base 2 "is_kept" ["rule", "standing"] spKept fKe fdKe) (TN : ExT K mg "NoStanding" "thing" CN fN fdN) (GN : FnOk P w K mg base CX0 1 fN fdN ["self", "thing"] (spXI CN "thing")) (TB : ExT K mg "Broken" "rules" CB fB fdB) (GB : FnOk P w K mg base CX0 1 fB fdB ["self", "rules"] (spXI CB "rules")) (m_tuple : mg "tuple" = none) : FnOk P w K mg base (L2.CX P w) (k + 4) f fd ["plan", "numbered", "thing"] (spChk CP CN CB) := by
  refine F.okX sc_check_standing (fun vs H Q E h => ?_) (fun cdv A outer s H vs Q E hr h => ?_)
  · obtain ⟨n, x, g, t, tops, as, rws, v, d, rfl, _⟩ := h
    rfl
  · obtain ⟨n, x, g, t, tops, as, rws, v, d, rfl, hp, l12, eg, nb, l60, fit, hd, e1, e2, q⟩ := h
    refine ⟨_, (pss_cons (ps_if (pt_not (pt_val (pe_kn Is hr (by omega) (pa_cons (pv 0) (pa_cons (pv 2) pa_nil))))) (pss_one (ps_raise rfl (takes_of rfl rfl rfl rfl) (pmk_x TN GN hr (by omega) (pa_cons (pv 2) pa_nil)))) pss_nil)
      (pss_cons (ps_set (i := 3) sc_check_standing.nd rfl (.inl rfl) (pe_callTy call_tuple_of (by rfl) m_tuple (by decide +kernel) (pa_cons (
        pe_lc (own := [("number", 4), ("rule", 5)]) (g := (gTup K 2 (gCons (gName 4) (gCons (gName 5) gNil)))) (tt := (tNot (tB (tCall spKept [] E0 (tCons (tVar 5) (tCons (tVar 2) tNil)))))) (te := (tVar 4)) rfl sc_check_standing.nd (pi_tup (pv 1)) (blkOk_by (N := n_check_standing) (sc := defScope a_check_standing) (by decide +kernel))
          (fun _ _ _ _ _ => (pg_tup rfl (pgs_cons (pg_name (i := 4) sc_check_standing.nd rfl (.inl rfl) (hf := .inr rfl)) (pgs_cons (pg_name (i := 5) sc_check_standing.nd rfl (.inl rfl) (hf := .inr rfl)) pgs_nil)))) (fun _ _ _ _ _ => pts_one (pt_not (pt_val (pe_kn Ke hr (by omega) (pa_cons (pv 5) (pa_cons (pv 2) pa_nil)))))) (fun _ _ _ _ _ => (pv 4))) pa_nil)))
      (pss_one (ps_if (pt_cmpR (op_neD hr.units) (pv 3) (pe_tup pa_nil) (nomark _)) (pss_one (ps_raise rfl (takes_of rfl rfl rfl rfl) (pmk_x TB GB hr (by omega) (pa_cons (pv 3) pa_nil)))) pss_nil)))), ?_⟩
    refine ⟨.ref x, rfl, v, rfl, n, x, t, tops, v, d, rfl, hp, l12, hd, fun H1 s1 => ⟨_, rfl, ?_⟩⟩
    cases c : standingD tops d with
    | false => exact iteT ⟨v, rfl, mkX fun dd nd => e1 c _ dd (s1.trans (same_new nd)) upd_same⟩
    | true =>
      obtain ⟨p, rfl, ep, pl, pb⟩ := stand_at hd c
      have e2' := e2 c
      have q' := q c
      generalize numsD d = xs at *
      have eg1 := s1 _ _ eg
      refine iteF ⟨.ref g, rfl, g, rfl, ⟨_, .inl (.inl eg1)⟩, fun D nD => lc_it (walk_tup (xs := as.map V.ref)) (fun i H' => Same H1 H' ∧ H' D = some (.lst ((brokN xs (rws.take i)).map V.int))) ⟨same_new nD, upd_same⟩ (fun i H' _ p => .inl (.inl (p.1 _ _ eg1))) (fun i v H2' H2 hi p yy => ?_) (fun H2 p => ?_)⟩
      · obtain ⟨s2, eD⟩ := p
        obtain ⟨rfl, gv⟩ := yy
        obtain ⟨a, ea, rfl⟩ := mapGet gv
        have il : i < rws.length := by rw [← nb.1]; simpa using hi
        have er : rws[i]? = some rws[i] := List.getElem?_eq_getElem il
        have ft := fit _ (List.getElem_mem il)
        have bt := brokN_take xs rws i _ er
        generalize rws[i] = r0 at er ft bt
        obtain ⟨pr, e3, e4⟩ := (nb.tk (tk_same (s1.trans s2))).2 i a r0 ea er
        refine ⟨a, _, rfl, .inl (.inl e3), rfl, _, _, rfl, _, _, rfl, rfl, rfl, .ref pr, rfl, .ref _, rfl, pr, _, r0.2, xs, rfl, e4, (s1.trans s2) _ _ ep, ⟨pl ▸ ft.1, pl ▸ ft.2⟩, _, rfl, ?_⟩
        cases k : kept xs r0.2 with
        | true =>
          rw [k] at bt
          refine iteF ⟨s2, ?_⟩
          rw [bt]
          simpa using eD
        | false =>
          rw [k] at bt
          refine iteT ⟨.int r0.1, rfl, _, eD, ?_, same_over s2 nD, ?_⟩
          · have := brokN_len xs (rws.take i)
            rw [List.length_take] at this
            rw [List.length_map]
            exact small1000 (by omega)
          · rw [upd_same, bt, List.map_append]
            rfl
      · obtain ⟨s2, eD⟩ := p
        have tk : rws.take (as.map V.ref).length = rws := List.take_of_length_le (by rw [List.length_map, nb.1]; exact Nat.le_refl _)
        rw [tk] at eD
        refine ⟨D, _, rfl, .inl ⟨.inl (.inl eD), fun q4 nq => ?_⟩⟩
        have s4 := same_new (o := HO.tup ((brokN xs rws).map V.int)) nq
        have e5 : (upd H2 q4 (HO.tup ((brokN xs rws).map V.int))) q4 = some (.tup ((brokN xs rws).map V.int)) := upd_same
        generalize upd H2 q4 (HO.tup ((brokN xs rws).map V.int)) = H4 at s4 e5 ⊢
        have s14 := (s1.trans s2).trans s4
        refine ⟨.ref q4, rfl, (show 0 ≤ sizeLine by decide), fun q5 n5 => ?_⟩
        have s5 := same_new (o := HO.tup []) n5
        have e6 : (upd H4 q5 (HO.tup [])) q5 = some (.tup []) := upd_same
        generalize upd H4 q5 (HO.tup []) = H5 at s5 e6 ⊢
        have ev : PyData.eqv (.tuple ((brokN xs rws).map PyData.int)) (.tuple []) = decide (brokN xs rws = []) := eqv_ints _ []
        refine ⟨_, _, dpt (s5 _ _ e5), dpt (xs := []) e6, shaped_ints _, rfl, _, rfl, ?_⟩
        show if (!PyData.eqv (.tuple ((brokN xs rws).map PyData.int)) (.tuple [])) = true then _ else _
        rw [ev]
        by_cases z : brokN xs rws = []
        · rw [decide_eq_true z]
          exact iteF (q' z _ (s14.trans s5))
        · rw [decide_eq_false z]
          refine iteT ⟨.ref q4, rfl, mkX fun dd nd => ?_⟩
          exact e2' z _ dd q4 ((s14.trans s5).trans (same_new nd)) upd_same (same_new nd _ _ (s5 _ _ e5))
end
end K66

set_option Elab.async false
set_option linter.all false
set_option maxRecDepth 100000
set_option maxHeartbeats 1000000
/-! tuple(zip(a, b)) of two lists of one length. -/
namespace NB
open PySem PySem.Spec PyProof.Rows L2

theorem zip_len0 : typeLookup (.type "zip") "__len__" = pure none := by
  rw [typeLookup_type, builtinLookup_eq_fast]
  kernel_rfl
theorem zip_hint0 : typeLookup (.type "zip") "__length_hint__" = pure none := by
  rw [typeLookup_type, builtinLookup_eq_fast]
  kernel_rfl
/-- the tuples given out so far -/
def Gave (h : Heap) (ban : List Addr) (xs ys : Array Value) (Ts : List Addr) : Prop := ∀ (j : Nat) (T : Addr), Ts[j]? = some T → T ∉ ban ∧ ∃ x y, xs[j]? = some x ∧ ys[j]? = some y ∧ IsPair h T x y
/-- a zip of two lists behind k turns -/
def Zst (h : Heap) (z TI TO i1 i2 l1 l2 : Addr) (xs ys : Array Value) (k : Nat) (Ts : List Addr) : Prop :=
  ((IsZip h z TI TO .none ∧ Ts = []) ∨ ∃ T ∈ Ts, ∃ f, IsZipHeld h z TI TO T f) ∧ IsPair h TI (.ref i1) (.ref i2) ∧ (∃ a b, IsPair h TO a b) ∧ (h.IsListIter i1 l1 k ∧ h.IsListIter i2 l2 k) ∧ h.IsList l1 xs ∧ h.IsList l2 ys
theorem Gave.keep {h h' : Heap} {ban : List Addr} {xs ys : Array Value} {Ts : List Addr} (g : Gave h ban xs ys Ts) (k : ∀ b o, b ∉ ban → h.get? b = some o → h'.get? b = some o) : Gave h' ban xs ys Ts := fun j T e => by
  obtain ⟨n, x, y, ex, ey, p⟩ := g j T e
  exact ⟨n, x, y, ex, ey, k _ _ n p⟩
theorem Gave.snoc {h : Heap} {ban : List Addr} {xs ys : Array Value} {Ts : List Addr} {T : Addr} {x y : Value} (g : Gave h ban xs ys Ts) (n : T ∉ ban) (ex : xs[Ts.length]? = some x) (ey : ys[Ts.length]? = some y) (p : IsPair h T x y) : Gave h ban xs ys (Ts ++ [T]) := fun j T' e => by
  rcases Nat.lt_trichotomy j Ts.length with l | l | l
  · rw [List.getElem?_append_left l] at e
    exact g j T' e
  · rw [l, List.getElem?_append_right (Nat.le_refl _), Nat.sub_self] at e
    cases e
    exact ⟨n, x, y, l ▸ ex, l ▸ ey, p⟩
  · rw [List.getElem?_append_right (by omega)] at e
    rw [List.getElem?_eq_none (by simp; omega)] at e
    cases e
section
variable {prog : Program} {w : World} {A : Around} {E : Value → Shared → Prop} {z TI TO i1 i2 l1 l2 S : Addr} {xs ys : Array Value}
abbrev listAt (h : Heap) (S : Addr) (vs : Array Value) (c : Nat) : Prop := h.get? S = some { cls := .type "list", dict := none, data := .seq vs c, slots := #[] }
theorem zip_turn {s : Shared} {k : Nat} {Ts : List Addr} {x y : Value} {Q : Option Value → Shared → Prop} (D : ZipApart z TI TO i1 i2 l1 l2) (st : Zst s.heap z TI TO i1 i2 l1 l2 xs ys k Ts) (hT : ∀ T ∈ Ts, ∃ o, s.heap.get? T = some o) (hx : xs[k]? = some x) (hy : ys[k]? = some y)
    (hQ : ∀ h', Zst h' z TI TO i1 i2 l1 l2 xs ys (k + 1) (Ts ++ [s.heap.objs.size]) → IsPair h' s.heap.objs.size x y → (∀ b o, b ∉ [z, TO, i1, i2] → s.heap.get? b = some o → h'.get? b = some o) → Q (some (.ref s.heap.objs.size)) { s with heap := h' }) :
    wpAny (model prog w) A (pyNext (.ref z)) Q E s := by
  obtain ⟨zs, p1, ⟨a, b, p2⟩, ⟨t1, t2⟩, q1, q2⟩ := st
  rcases zs with ⟨z0, _⟩ | ⟨T, mT, f, zh⟩
  · refine wpAny_pyNext_zip_item D z0 p1 p2 t1 t2 q1 q2 hx hy fun h' a1 a2 a3 a4 a5 _ kp => hQ h' ⟨.inr ⟨_, List.mem_append_right _ (List.mem_singleton.mpr rfl), false, a1⟩, kp _ _ D.TIz D.TITO D.TIi1 D.TIi2 p1, ⟨_, _, a2⟩, ⟨a3, a4⟩, q1.at fun o e => kp _ o D.l1z D.l1TO D.l1i1 D.l1i2 e, q2.at fun o e => kp _ o D.l2z D.l2TO D.l2i1 D.l2i2 e⟩ a5 fun b o nb e => ?_
    simp only [List.mem_cons, List.not_mem_nil, or_false, not_or] at nb
    exact kp b o nb.1 nb.2.1 nb.2.2.1 nb.2.2.2 e
  · obtain ⟨o, eo⟩ := hT T mT
    refine wpAny_pyNext_zip_item_held D zh eo p1 t1 t2 q1 q2 hx hy fun h' a1 a3 a4 a5 _ kp => hQ h' ⟨.inr ⟨T, List.mem_append_left _ mT, true, a1⟩, kp _ _ D.TIz D.TIi1 D.TIi2 p1, ⟨_, _, kp _ _ D.TOz D.TOi1 D.TOi2 p2⟩, ⟨a3, a4⟩, q1.at fun o e => kp _ o D.l1z D.l1i1 D.l1i2 e, q2.at fun o e => kp _ o D.l2z D.l2i1 D.l2i2 e⟩ a5 fun b o nb e => ?_
    simp only [List.mem_cons, List.not_mem_nil, or_false, not_or] at nb
    exact kp b o nb.1 nb.2.2.1 nb.2.2.2 e
theorem zip_over {s : Shared} {k : Nat} {Ts : List Addr} {Q : Option Value → Shared → Prop} (hh : A.handled = none) (D : ZipApart z TI TO i1 i2 l1 l2) (st : Zst s.heap z TI TO i1 i2 l1 l2 xs ys k Ts) (hT : ∀ T ∈ Ts, ∃ o, s.heap.get? T = some o) (hx : xs[k]? = none)
    (hQ : ∀ h', (∀ b o, b ∉ [z, TO, i1, i2] → s.heap.get? b = some o → h'.get? b = some o) → Q none { s with heap := h' }) : wpAny (model prog w) A (pyNext (.ref z)) Q E s := by
  obtain ⟨zs, p1, ⟨a, b, p2⟩, ⟨t1, t2⟩, q1, q2⟩ := st
  rcases zs with ⟨z0, _⟩ | ⟨T, mT, f, zh⟩
  · refine wpAny_pyNext_zip_end hh D z0 p1 p2 t1 t2 q1 q2 (.inl hx) fun h' kp => hQ h' fun b o nb e => ?_
    simp only [List.mem_cons, List.not_mem_nil, or_false, not_or] at nb
    exact kp b o nb.1 nb.2.1 nb.2.2.1 nb.2.2.2 e
  · obtain ⟨o, eo⟩ := hT T mT
    refine wpAny_pyNext_zip_end_held hh D zh eo p1 t1 t2 q1 q2 (.inl hx) fun h' kp => hQ h' fun b o nb e => ?_
    simp only [List.mem_cons, List.not_mem_nil, or_false, not_or] at nb
    exact kp b o nb.1 nb.2.2.1 nb.2.2.2 e
theorem Zst.keep {h h' : Heap} {k : Nat} {Ts : List Addr} (st : Zst h z TI TO i1 i2 l1 l2 xs ys k Ts) (kp : ∀ b o, b ≠ S → h.get? b = some o → h'.get? b = some o) (n : S ∉ [z, TI, TO, i1, i2, l1, l2]) : Zst h' z TI TO i1 i2 l1 l2 xs ys k Ts := by
  simp only [List.mem_cons, List.not_mem_nil, or_false, not_or] at n
  obtain ⟨n1, n2, n3, n4, n5, n6, n7⟩ := n
  obtain ⟨zs, p1, ⟨a, b, p2⟩, ⟨t1, t2⟩, q1, q2⟩ := st
  refine ⟨?_, kp _ _ (Ne.symm n2) p1, ⟨a, b, kp _ _ (Ne.symm n3) p2⟩, ⟨t1.at fun o e => kp _ o (Ne.symm n4) e, t2.at fun o e => kp _ o (Ne.symm n5) e⟩, q1.at fun o e => kp _ o (Ne.symm n6) e, q2.at fun o e => kp _ o (Ne.symm n7) e⟩
  rcases zs with ⟨z0, e⟩ | ⟨T, mT, f, zh⟩
  · exact .inl ⟨kp _ _ (Ne.symm n1) z0, e⟩
  · exact .inr ⟨T, mT, f, kp _ _ (Ne.symm n1) zh⟩
theorem zip_loop {R : Result → Shared → Prop} (hh : A.handled = none) (D : ZipApart z TI TO i1 i2 l1 l2) (nS : S ∉ [z, TI, TO, i1, i2, l1, l2]) (hn : xs.size = ys.size) (hz : xs.size ≤ 1000) (res : Value) :
    ∀ (m k : Nat) (s : Shared) (Ts : List Addr) (c : Nat), xs.size - k = m → k ≤ xs.size → Ts.length = k → Zst s.heap z TI TO i1 i2 l1 l2 xs ys k Ts → Gave s.heap [S, z, TO, i1, i2] xs ys Ts → listAt s.heap S (Ts.map Value.ref).toArray c →
    (∀ (h' : Heap) (Us : List Addr) (c' : Nat), (∀ b o, b ∉ [S, z, TO, i1, i2] → s.heap.get? b = some o → h'.get? b = some o) → Us.length = xs.size → (∀ T ∈ Us, T ∈ Ts ∨ s.heap.objs.size ≤ T) → Us.Nodup ∨ True → Gave h' [S, z, TO, i1, i2] xs ys Us → listAt h' S (Us.map Value.ref).toArray c' → R (.ok (.ret res)) { s with heap := h' }) →
    codeAny (model prog w) A (.builtin "list.extend.loop" ⟨[.ref S, .ref z, res], []⟩) R s := by
  have hb : ∀ b, b ∉ [S, z, TO, i1, i2] → b ∉ [z, TO, i1, i2] := fun b h1 h2 => h1 (List.mem_cons_of_mem _ h2)
  intro m
  induction m with
  | zero =>
    intro k s Ts c em le lT st gv lS fin
    have ek : k = xs.size := by omega
    have al : ∀ T ∈ Ts, ∃ o, s.heap.get? T = some o := fun T mT => by
      obtain ⟨j, hj, e⟩ := List.getElem_of_mem mT
      obtain ⟨_, _, _, _, _, p⟩ := gv j T (by rw [List.getElem?_eq_getElem hj, e])
      exact ⟨_, p⟩
    refine codeAny_builtin F.entry_extend_loop ?_
    rw [Around.under_plainId F.plain_extend_loop _]
    show wpAny _ A.in1 (pyNext (.ref z) >>= _) _ _ s
    have sn : S ∉ [z, TO, i1, i2] := fun h => nS (by
      simp only [List.mem_cons, List.not_mem_nil, or_false] at h ⊢
      rcases h with h | h | h | h <;> simp [h])
    refine wpAny_bind (zip_over (A := A.in1) hh D st al (by rw [ek]; simp) fun h' kp => wpAny_pure ?_)
    exact fin h' Ts c (fun b o n e => kp b o (hb b n) e) (by omega) (fun T h => .inl h) (.inr trivial) (gv.keep fun b o n e => kp b o (hb b n) e) (kp _ _ sn lS)
  | succ m ih =>
    intro k s Ts c em le lT st gv lS fin
    have lk : k < xs.size := by omega
    have al : ∀ T ∈ Ts, ∃ o, s.heap.get? T = some o := fun T mT => by
      obtain ⟨j, hj, e⟩ := List.getElem_of_mem mT
      obtain ⟨_, _, _, _, _, p⟩ := gv j T (by rw [List.getElem?_eq_getElem hj, e])
      exact ⟨_, p⟩
    have sn : S ∉ [z, TO, i1, i2] := fun h => nS (by
      simp only [List.mem_cons, List.not_mem_nil, or_false] at h ⊢
      rcases h with h | h | h | h <;> simp [h])
    refine codeAny_builtin F.entry_extend_loop ?_
    rw [Around.under_plainId F.plain_extend_loop _]
    show wpAny _ A.in1 (pyNext (.ref z) >>= _) _ _ s
    have ex : xs[k]? = some xs[k] := Array.getElem?_eq_getElem lk
    have ey : ys[k]? = some (ys[k]'(by omega)) := Array.getElem?_eq_getElem _
    refine wpAny_bind (zip_turn (A := A.in1) D st al ex ey fun h' st' pr kp => ?_)
    have lS' : listAt h' S (Ts.map Value.ref).toArray c := kp _ _ sn lS
    show wpAny _ A.in1 (updateSeq S (·.push (.ref s.heap.objs.size)) >>= _) _ _ _
    have up : ∀ b o, b ≠ S → h'.get? b = some o → (h'.update S (Obj.mapSeq (·.push (Value.ref s.heap.objs.size)))).get? b = some o := fun b o n e => (Heap.get?_update_other _ _ (Ne.symm n)).trans e
    have nT : s.heap.objs.size ∉ [S, z, TO, i1, i2] := fun h => by
      have lt : ∀ {c o}, s.heap.get? c = some o → s.heap.objs.size ≠ c := fun e => Nat.ne_of_gt (Heap.lt_size e)
      obtain ⟨zs, p1, ⟨a, b, p2⟩, ⟨⟨_, t1, _⟩, ⟨_, t2, _⟩⟩, q1, q2⟩ := st
      simp only [List.mem_cons, List.not_mem_nil, or_false] at h
      rcases h with h | h | h | h | h
      · exact lt lS h
      · rcases zs with ⟨z0, _⟩ | ⟨T, mT, f, zh⟩
        · exact lt z0 h
        · exact lt zh h
      · exact lt p2 h
      · exact lt t1 h
      · exact lt t2 h
    have gv' : Gave h' [S, z, TO, i1, i2] xs ys (Ts ++ [s.heap.objs.size]) := (gv.keep fun b o n e => kp b o (hb b n) e).snoc nT (by rw [lT]; exact ex) (by rw [lT]; exact ey) pr
    refine wpAny_bind (wpAny_updateSeq lS' rfl (wpAny_pure ⟨plainId_quiet F.plain_extend_loop _, ih (k + 1) _ (Ts ++ [s.heap.objs.size]) (c + 1) (by omega) lk (by rw [List.length_append, lT]; rfl) (st'.keep up nS) (gv'.keep fun b o n e => up b o (fun z => n (by rw [z]; exact List.mem_cons_self)) e) ?_ fun h'' Us c' kk lU mU _ gU lU' => ?_⟩) ?_ ?_)
    · have := Heap.get?_update_self (Obj.mapSeq (·.push (Value.ref s.heap.objs.size))) lS' rfl
      refine this.trans ?_
      have sz : (((Ts.map Value.ref).toArray.push (Value.ref s.heap.objs.size)).size == (Ts.map Value.ref).toArray.size) = false := by
        rw [Array.size_push]
        exact beq_eq_false_iff_ne.mpr (by omega)
      have ea : (Ts.map Value.ref).toArray.push (Value.ref s.heap.objs.size) = ((Ts ++ [s.heap.objs.size]).map Value.ref).toArray := by simp
      show some (Obj.mapSeq _ _) = _
      unfold Obj.mapSeq
      rw [ea] at sz
      simp only [ea, sz]
      rfl
    · refine fin h'' Us c' (fun b o n e => kk b o n (up b o (fun z => n (by rw [z]; exact List.mem_cons_self)) (kp b o (hb b n) e))) lU (fun T h => ?_) (.inr trivial) gU lU'
      rcases mU T h with h | h
      · rcases List.mem_append.mp h with h | h
        · exact .inl h
        · exact .inr (by rw [List.mem_singleton.mp h]; exact Nat.le_refl _)
      · refine .inr (Nat.le_trans ?_ h)
        have := Heap.lt_size pr
        show s.heap.objs.size ≤ (h'.update S _).objs.size
        have e : (h'.update S (Obj.mapSeq (·.push (Value.ref s.heap.objs.size)))).objs.size = h'.objs.size := Heap.size_update ..
        rw [e]
        exact Nat.le_of_lt this
    · show (Ts.map Value.ref).toArray.size ≤ sizeLine
      simp only [List.size_toArray, List.length_map]
      exact Nat.le_of_lt (small1000 (by omega))
    · show ((Ts.map Value.ref).toArray.push _).size ≤ sizeLine + 1
      simp only [Array.size_push, List.size_toArray, List.length_map]
      have := small1000 (n := Ts.length) (by omega)
      omega

/-- the list of what a zip gives -/
theorem zip_collect {s : Shared} {Q : List Value → Shared → Prop} (hh : A.handled = none) (D : ZipApart z TI TO i1 i2 l1 l2) (hn : xs.size = ys.size) (hz : xs.size ≤ 1000) (st : Zst s.heap z TI TO i1 i2 l1 l2 xs ys 0 [])
    (hQ : ∀ (h' : Heap) (Us : List Addr), (∀ b o, b ∉ [z, TO, i1, i2] → s.heap.get? b = some o → h'.get? b = some o) → Us.length = xs.size → (∀ T ∈ Us, s.heap.objs.size ≤ T) → Gave h' [z, TO, i1, i2] xs ys Us → Q (Us.map Value.ref) { s with heap := h' }) :
    wpAny (model prog w) A (collect (.ref z)) Q E s := by
  have lt : ∀ {c o}, s.heap.get? c = some o → s.heap.objs.size ≠ c := fun e => Nat.ne_of_gt (Heap.lt_size e)
  have z0 : IsZip s.heap z TI TO .none := by
    rcases st.1 with ⟨h, _⟩ | ⟨_, h, _⟩
    · exact h
    · exact absurd h List.not_mem_nil
  have nS : s.heap.objs.size ∉ [z, TI, TO, i1, i2, l1, l2] := fun h => by
    obtain ⟨_, p1, ⟨a, b, p2⟩, ⟨⟨_, t1, _⟩, ⟨_, t2, _⟩⟩, ⟨_, q1, _⟩, ⟨_, q2, _⟩⟩ := st
    simp only [List.mem_cons, List.not_mem_nil, or_false] at h
    rcases h with h | h | h | h | h | h | h
    · exact lt z0 h
    · exact lt p1 h
    · exact lt p2 h
    · exact lt t1 h
    · exact lt t2 h
    · exact lt q1 h
    · exact lt q2 h
  unfold collect
  refine wpAny_bind (wpAny_runValue (codeAny_builtin F.entry_proto_collect ?_))
  rw [Around.under_plainId F.plain_proto_collect _]
  show wpAny _ A.in1 (newList [] >>= fun l => again (.builtin "list.__iadd__" ⟨[l, .ref z], []⟩)) _ _ s
  refine wpAny_bind (wpAny_newObj_type ?_)
  refine wpAny_pure ⟨plainId_quiet F.plain_list_iadd _, codeAny_builtin F.entry_list_iadd ?_⟩
  rw [Around.under_plainId F.plain_list_iadd _]
  obtain ⟨S, eS⟩ : ∃ S, S = s.heap.objs.size := ⟨_, rfl⟩
  rw [← eS] at nS lt ⊢
  obtain ⟨g, eg⟩ : ∃ g : Heap, g = s.heap.push { cls := .type "list", data := .seq ([] : List Value).toArray } := ⟨_, rfl⟩
  rw [← eg]
  have up : ∀ b o, s.heap.get? b = some o → g.get? b = some o := fun b o e => by rw [eg]; exact Heap.get?_push_of_some _ e
  have gS : listAt g S #[] 0 := by
    rw [eg, eS]
    exact Heap.get?_push_size _ rfl
  have gz : IsZip g z TI TO .none := up _ _ z0
  have ty : ({ s with heap := g } : Shared).TypeIs (.ref z) "zip" := ⟨_, gz, rfl⟩
  have nz : S ≠ z := fun e => nS (by simp [e])
  show wpAny _ A.in1 (Builtin.List.listExtendWith (.ref S) (.ref z) (.ref S)) _ _ { s with heap := g }
  unfold Builtin.List.listExtendWith
  refine wpAny_bind (wpAny_typeOf ty ?_)
  have k1 : Builtin.List.listSameRef (.ref S) (.ref z) = false := by simp [Builtin.List.listSameRef, nz]
  have k2 : (Value.type "zip" == Value.type "list") = false := by decide
  have k3 : (Value.type "zip" == Value.type "tuple") = false := by decide
  simp only [k1, k2, k3, Bool.or_false, Bool.false_eq_true, if_false]
  refine wpAny_bind (wpAny_pyIter_zip (s := { s with heap := g }) gz ?_)
  refine wpAny_bind (wpAny_holding ?_)
  unfold Builtin.List.listLengthHint
  refine wpAny_bind (wpAny_specialOf ty zip_len0 ?_)
  show wpAny _ A.in1 (specialOf (Value.ref z) (Str.ofString "__length_hint__") >>= _) _ _ _
  refine wpAny_bind (wpAny_specialOf ty zip_hint0 ?_)
  refine wpAny_pure ?_
  show wpAny _ A.in1 (rule "list.extend.makes-room" >>= fun _ => Builtin.List.listTouch (.ref S) >>= fun _ => again (.builtin "list.extend.loop" ⟨[.ref S, .ref z, .ref S], []⟩)) _ _ _
  refine wpAny_bind (wpAny_rule (wpAny_bind ?_))
  show wpAny _ A.in1 (updateSeq S (·.push .none) >>= fun _ => updateSeq S (·.pop)) _ _ _
  refine wpAny_bind (wpAny_updateSeq (s := { s with heap := g }) gS rfl ?_)
  have g2 := Heap.get?_update_self (Obj.mapSeq (·.push Value.none)) gS rfl
  refine wpAny_updateSeq g2 rfl ?_
  have g3 := Heap.get?_update_self (Obj.mapSeq (·.pop)) g2 rfl
  have oth : ∀ b o, b ≠ S → g.get? b = some o → ((g.update S (Obj.mapSeq (·.push Value.none))).update S (Obj.mapSeq (·.pop))).get? b = some o := fun b o n e => (Heap.get?_update_other _ _ (Ne.symm n)).trans ((Heap.get?_update_other _ _ (Ne.symm n)).trans e)
  have st' : Zst ((g.update S (Obj.mapSeq (·.push Value.none))).update S (Obj.mapSeq (·.pop))) z TI TO i1 i2 l1 l2 xs ys 0 [] := by
    refine Zst.keep (S := S) (h := g) ?_ oth nS
    obtain ⟨_, p1, ⟨a, b, p2⟩, ⟨t1, t2⟩, q1, q2⟩ := st
    exact ⟨.inl ⟨gz, rfl⟩, up _ _ p1, ⟨a, b, up _ _ p2⟩, ⟨t1.at fun o e => up _ o e, t2.at fun o e => up _ o e⟩, q1.at fun o e => up _ o e, q2.at fun o e => up _ o e⟩
  have sz : ((g.update S (Obj.mapSeq (·.push Value.none))).update S (Obj.mapSeq (·.pop))).objs.size = s.heap.objs.size + 1 := by
    have a1 : ((g.update S (Obj.mapSeq (·.push Value.none))).update S (Obj.mapSeq (·.pop))).objs.size = (g.update S (Obj.mapSeq (·.push Value.none))).objs.size := Heap.size_update ..
    have a2 : (g.update S (Obj.mapSeq (·.push Value.none))).objs.size = g.objs.size := Heap.size_update ..
    rw [a1, a2, eg, Heap.size_push]
  refine wpAny_pure ⟨plainId_quiet F.plain_extend_loop _, zip_loop hh D nS hn hz _ xs.size 0 _ [] _ (by omega) (Nat.zero_le _) rfl st' (fun j T e => by simp at e) g3 fun h' Us c' kp lU mU _ gU lU' => ?_⟩
  have nb : ∀ {b o}, s.heap.get? b = some o → b ≠ S := fun e z => lt e z.symm
  show wpAny _ A (load S >>= _) _ _ { s with heap := h' }
  refine wpAny_bind (wpAny_load lU' (wpAny_pure ?_))
  refine hQ h' Us (fun b o n e => kp b o (fun m => ?_) (oth b o (nb e) (up b o e))) lU (fun T h => ?_) fun j T e => ?_
  · rcases List.mem_cons.mp m with m | m
    · exact nb e m
    · exact n m
  · rcases mU T h with h | h
    · exact absurd h List.not_mem_nil
    · have : s.heap.objs.size + 1 ≤ T := by rw [← sz]; exact h
      exact Nat.le_of_succ_le this
  · obtain ⟨n, x, y, ex, ey, p⟩ := gU j T e
    exact ⟨fun m => n (List.mem_cons_of_mem _ m), x, y, ex, ey, p⟩
theorem zip_tuple {s : Shared} {Q : Value → Shared → Prop} (hh : A.handled = none) (D : ZipApart z TI TO i1 i2 l1 l2) (hn : xs.size = ys.size) (hz : xs.size ≤ 1000) (st : Zst s.heap z TI TO i1 i2 l1 l2 xs ys 0 [])
    (hQ : ∀ (h' : Heap) (Us : List Addr), (∀ b o, b ∉ [z, TO, i1, i2] → s.heap.get? b = some o → h'.get? b = some o) → Us.length = xs.size → (∀ T ∈ Us, s.heap.objs.size ≤ T) → Gave h' [z, TO, i1, i2] xs ys Us →
      Q (.ref h'.objs.size) { s with heap := h'.push { cls := .type "tuple", data := .seq (Us.map Value.ref).toArray } }) :
    wpAny (model prog w) A (call (.type "tuple") [.ref z]) Q E s := by
  refine callType_codes (Q₁ := fun o t => t.TypeIs o "tuple" ∧ Q o t) F.called_tuple (F.typeCall_tuple_1 _) F.entry_object_init ?_ fun o t ht => ⟨ht.1, F.args_object_init_2 o _, object_init_meets F.called_tuple.init.lookup F.called_tuple.made (by decide) prog w A.in1 _ t ⟨ht.1, rfl, ht.2⟩⟩
  have z0 : IsZip s.heap z TI TO .none := by
    rcases st.1 with ⟨h, _⟩ | ⟨_, h, _⟩
    · exact h
    · exact absurd h List.not_mem_nil
  have ty : s.TypeIs (.ref z) "zip" := ⟨_, z0, rfl⟩
  refine codeAny_of_tree ?_
  show wpAny _ A.in1.in1 (do checkBuiltinCall "tuple.__new__" ⟨[.type "tuple", .ref z], []⟩; again (.builtin "tuple.__new__" ⟨[.type "tuple", .ref z], []⟩)) _ _ s
  refine wpAny_bind (wpAny_of_eq (F.newCall_tuple_1 _) (wpAny_pure ⟨plainId_quiet F.plain_tuple_new _, codeAny_builtin F.entry_tuple_new ?_⟩))
  rw [Around.under_plainId F.plain_tuple_new _]
  have f1 := sub_tuple_self
  have f2 := init_tuple_lookup
  have f3 := madeHere_tuple
  have hh2 : A.in1.in1.handled = none := hh
  wp_walk using wpAny_typeOf ty, zip_collect (A := A.in1.in1) hh2 D hn hz st
  intro h' Us kp lU mU gU
  show wpAny _ _ (Builtin.Tuple.tupleExact (Us.map Value.ref).toArray >>= fun v => ret v) _ _ _
  unfold Builtin.Tuple.tupleExact
  refine wpAny_bind (wpAny_newObj_type (wpAny_pure ⟨⟨_, Heap.get?_push_size _ rfl, rfl⟩, hQ h' Us kp lU mU gU⟩) ?_)
  show (Us.map Value.ref).toArray.size ≤ sizeLine
  rw [List.size_toArray, List.length_map, lU]
  exact Nat.le_of_lt (small1000 hz)
end

section
variable {X : Cx} {pins : List (Addr × Obj)} {σ : L2.St} {H H' : Hp} {s : Shared}
/-- some objects laid and tracked at once -/
theorem inv_laid {h' : Heap} {t' : Nat} (I : Inv X pins σ H s) (k : ∀ b u, s.heap.get? b = some u → h'.get? b = some u) (old : ∀ b u, H b = some u → H' b = some u) (new : ∀ b u, H' b = some u → H b = some u ∨ (s.heap.objs.size ≤ b ∧ ObjOk X.prog X.w H' h' b u)) :
    Inv X pins σ H' { s with heap := h', toks := t' } := by
  refine I.un ⟨fun b o q _ _ _ => k b o q, fun b o q _ _ _ => ⟨o.slots, k b o q⟩, fun b o q n _ => ?_, fun b o q _ => ⟨o, k b o q⟩, fun b xs q => old _ _ q, fun b o u q => old _ _ q, fun b ps q => ⟨#[], by rw [old _ _ q]; simp⟩⟩ fun b u e => ?_
  · cases e : H' b with
    | none => rfl
    | some u =>
      rcases new b u e with h | ⟨h, _⟩
      · rw [n] at h
        cases h
      · exact absurd (Nat.lt_of_lt_of_le (Heap.lt_size q) h) (Nat.lt_irrefl _)
  · rcases new b u e with h | ⟨_, h⟩
    · exact (I.hok b u h).stay (fun c v _ q => k c v q) (fun c q => old _ _ q) fun c xs q => old _ _ q
    · exact h
/-- tuple(zip(a, b)) of two lists -/
def tTupZip (K : PySem.W.Frag) (ta : TA) : TE := fun σ H Q => ta σ H fun vs H1 => ∃ a b xs ys, vs = [.ref a, .ref b] ∧ SqL K H1 a xs ∧ SqL K H1 b ys ∧ xs.length = ys.length ∧ xs.length ≤ 1000 ∧
  ∀ H2 q (Us : List Addr), Same H1 H2 → H1 q = none → H2 q = some (.tup (Us.map V.ref)) → Us.length = xs.length → (∀ (j : Nat) T, Us[j]? = some T → ∃ x y, xs[j]? = some x ∧ ys[j]? = some y ∧ H2 T = some (.tup [x, y])) → Q (.ref q) H2
theorem pe_tupZip {e e2 : Expr} {ta : TA} {p p2 pos pos2 : Pos} (hc : X.calm = true) (hg : Gl X "tuple") (hm : X.mg "tuple" = none) (hg2 : Gl X "zip") (hm2 : X.mg "zip" = none) (ha : PA X [e, e2] ta)
    (hs : starEach [e, e2] X.env = (false, eval e X.env) :: starEach [e2] X.env := by rfl) (hpl : (backTo pos2 (starEach [e2] X.env)).any (·.1) = false := by rfl)
    (hs1 : starEach [.Call (.Name "zip" p2) [e, e2] [] pos2] X.env = (false, eval (.Call (.Name "zip" p2) [e, e2] [] pos2) X.env) :: starEach [] X.env := by rfl) :
    PE X (.Call (.Name "tuple" p) [.Call (.Name "zip" p2) [e, e2] [] pos2] [] pos) (tTupZip X.K ta) := by
  refine ⟨fun pins s σ H Q I h => ?_⟩
  refine Call_ (ld_blt I hg hm boot_tuple (PyProof.Rows.callWith_type1 (args_cons ?_ hs1) hs1))
  refine Call_ (ld_blt I hg2 hm2 PyProof.Rows.boot_zip (PyProof.Rows.callWith_type1 (thn (ha.run pos2 pins s σ H _ I h) fun us s1 h1 => ?_) hs hpl))
  obtain ⟨vs, H1, I1, r1, a, b, xs, ys, rfl, ha1, hb1, hl, h1000, q⟩ := h1
  obtain ⟨u1, us, rfl, ru1, r2⟩ : ∃ u us', us = u :: us' ∧ RelV (.ref a) u ∧ Vals [V.ref b] us' := by
    cases r1 with
    | cons r rr => exact ⟨_, _, rfl, r, rr⟩
  obtain ⟨u2, rfl, ru2⟩ : ∃ u, us = [u] ∧ RelV (.ref b) u := by
    cases r2 with
    | cons r rr =>
      cases rr
      exact ⟨_, rfl, r⟩
  obtain rfl : u1 = Value.ref a := ru1
  obtain rfl : u2 = Value.ref b := ru2
  obtain ⟨is1, v1, p1, _⟩ := I1.list ha1
  obtain ⟨is2, v2, p2', _⟩ := I1.list hb1
  have e1 : is1.length = xs.length := v1.length.symm
  have e2' : is2.length = ys.length := v2.length.symm
  refine call_zip_2 p1.isList p2'.isList fun h' hz hTI hTO t1 t2 hsz hk => args_nil ?_
  have D := PySem.W.ktu_apart s1.heap.objs.size a b p1.lt p2'.lt
  have st : Zst h' (s1.heap.objs.size + 4) (s1.heap.objs.size + 2) (s1.heap.objs.size + 3) s1.heap.objs.size (s1.heap.objs.size + 1) a b is1.toArray is2.toArray 0 [] :=
    ⟨.inl ⟨hz, rfl⟩, hTI, ⟨_, _, hTO⟩, ⟨t1, t2⟩, p1.isList.at fun o e => hk _ o e, p2'.isList.at fun o e => hk _ o e⟩
  have hh : X.A.handled = none := I1.ok.hd hc
  refine zip_tuple (s := { s1 with heap := h' }) hh D (by simp only [List.size_toArray]; omega) (by simp only [List.size_toArray]; omega) st fun g Us kp lU mU gU => ?_
  have lU' : Us.length = xs.length := by
    rw [lU, List.size_toArray]
    omega
  have old : ∀ b' o, s1.heap.get? b' = some o → g.get? b' = some o := fun b' o e => by
    have l := Heap.lt_size e
    refine kp b' o (fun m => ?_) (hk b' o e)
    simp only [List.mem_cons, List.not_mem_nil, or_false] at m
    have l' : b' < s1.heap.objs.size := l
    rcases m with m | m | m | m <;> (rw [m] at l'; first | exact absurd l' (Nat.lt_irrefl _) | exact absurd l' (Nat.not_lt.mpr (Nat.le_add_right _ _)))
  have big : ∀ T ∈ Us, s1.heap.objs.size ≤ T := fun T hT => by
    have := mU T hT
    have h5 : h'.objs.size ≤ T := this
    rw [hsz] at h5
    exact Nat.le_trans (Nat.le_add_right _ _) h5
  have gsz : s1.heap.objs.size ≤ g.objs.size := by
    have := Heap.lt_size (kp _ _ (fun m => by
      simp only [List.mem_cons, List.not_mem_nil, or_false] at m
      rcases m with m | m | m | m
      · exact D.TIz m
      · exact D.TITO m
      · exact D.TIi1 m
      · exact D.TIi2 m) hTI)
    exact Nat.le_trans (Nat.le_add_right _ _) (Nat.le_of_lt this)
  have idx : ∀ T ∈ Us, ∃ (j : Nat) (x y : V) (u v : Value), Us[j]? = some T ∧ xs[j]? = some x ∧ ys[j]? = some y ∧ RelV x u ∧ RelV y v ∧ IsPair g T u v := fun T hT => by
    obtain ⟨j, hj, e⟩ := List.getElem_of_mem hT
    have ej : Us[j]? = some T := by rw [List.getElem?_eq_getElem hj, e]
    obtain ⟨_, u, v, eu, ev, pr⟩ := gU j T ej
    have eu' : is1[j]? = some u := by simpa using eu
    have ev' : is2[j]? = some v := by simpa using ev
    have jx : j < xs.length := by
      have := (List.getElem?_eq_some_iff.mp eu').1
      omega
    have jy : j < ys.length := by omega
    obtain ⟨u', ru, hu⟩ := v1.get (List.getElem?_eq_getElem jx)
    obtain ⟨v', rv, hv⟩ := v2.get (List.getElem?_eq_getElem jy)
    rw [eu'] at ru
    rw [ev'] at rv
    cases ru
    cases rv
    exact ⟨j, xs[j], ys[j], u, v, ej, List.getElem?_eq_getElem jx, List.getElem?_eq_getElem jy, hu, hv, pr⟩
  let H2 : Hp := fun c => if c = g.objs.size then some (.tup (Us.map V.ref)) else if h : c ∈ Us then some (.tup [(idx c h).choose_spec.choose, (idx c h).choose_spec.choose_spec.choose]) else H1 c
  have nUg : ∀ T ∈ Us, T ≠ g.objs.size := fun T hT => by
    obtain ⟨_, _, _, _, _, _, _, _, _, _, pr⟩ := idx T hT
    exact Nat.ne_of_lt (Heap.lt_size pr)
  have atq : H2 g.objs.size = some (.tup (Us.map V.ref)) := if_pos rfl
  have atT : ∀ (j : Nat) (T : Addr), Us[j]? = some T → ∃ x y, xs[j]? = some x ∧ ys[j]? = some y ∧ H2 T = some (.tup [x, y]) := fun j T ej => by
    have hT := List.mem_of_getElem? ej
    obtain ⟨_, u, v, eu, ev, pr⟩ := gU j T ej
    have eu' : is1[j]? = some u := by simpa using eu
    have ev' : is2[j]? = some v := by simpa using ev
    have jx : j < xs.length := by
      have := (List.getElem?_eq_some_iff.mp eu').1
      omega
    have jy : j < ys.length := by omega
    obtain ⟨u', ru, hu⟩ := v1.get (List.getElem?_eq_getElem jx)
    obtain ⟨v', rv, hv⟩ := v2.get (List.getElem?_eq_getElem jy)
    rw [eu'] at ru
    rw [ev'] at rv
    cases ru
    cases rv
    refine ⟨xs[j], ys[j], List.getElem?_eq_getElem jx, List.getElem?_eq_getElem jy, ?_⟩
    have e2 : H2 T = some (.tup [(idx T hT).choose_spec.choose, (idx T hT).choose_spec.choose_spec.choose]) := (if_neg (nUg T hT)).trans (dif_pos hT)
    obtain ⟨u2, v2', _, _, _, hu2, hv2, pr2⟩ := (idx T hT).choose_spec.choose_spec.choose_spec
    rw [e2]
    have ed := congrArg Obj.data (Option.some.inj (pr.symm.trans pr2))
    injection ed with ea _
    have el := congrArg Array.toList ea
    have el' : [u, v] = [u2, v2'] := el
    injection el' with eu2 el2
    injection el2 with ev2 _
    subst eu2
    subst ev2
    rw [RelV.inj hu hu2, RelV.inj hv hv2]
  have sam : ∀ c u, H1 c = some u → H2 c = some u := fun c u e => by
    have l : c < s1.heap.objs.size := (I1.hok c u e).lt
    have n1 : c ≠ g.objs.size := Nat.ne_of_lt (Nat.lt_of_lt_of_le l gsz)
    have n2 : c ∉ Us := fun m => absurd (Nat.lt_of_lt_of_le l (big c m)) (Nat.lt_irrefl _)
    exact (if_neg n1).trans ((dif_neg n2).trans e)
  refine ⟨.ref g.objs.size, H2, ?_, rfl, q H2 _ Us sam (I1.hok.fresh gsz) atq lU' atT⟩
  show Inv X pins σ H2 { s1 with heap := g.push { cls := .type "tuple", data := .seq (Us.map Value.ref).toArray }, toks := s1.toks }
  refine inv_laid (t' := s1.toks) I1 (fun c o e => Heap.get?_push_of_some _ (old c o e)) sam fun c u e => ?_
  by_cases c1 : c = g.objs.size
  · subst c1
    rw [atq] at e
    cases e
    refine .inr ⟨gsz, ?_, Us.map Value.ref, vals_refs Us, IsTup.new _ _⟩
    rw [List.length_map, lU']
    exact Nat.le_of_lt (small1000 h1000)
  · by_cases c2 : c ∈ Us
    · obtain ⟨j, hj, ec⟩ := List.getElem_of_mem c2
      have ej : Us[j]? = some c := by rw [List.getElem?_eq_getElem hj, ec]
      obtain ⟨x, y, ex, ey, e2⟩ := atT j c ej
      rw [e2] at e
      cases e
      obtain ⟨_, u, v, eu, ev, pr⟩ := gU j c ej
      have eu' : is1[j]? = some u := by simpa using eu
      have ev' : is2[j]? = some v := by simpa using ev
      obtain ⟨u', ru, hu⟩ := v1.get ex
      obtain ⟨v', rv, hv⟩ := v2.get ey
      rw [eu'] at ru
      rw [ev'] at rv
      cases ru
      cases rv
      refine .inr ⟨big c c2, (show 2 ≤ sizeLine by decide), [u, v], .cons hu (.cons hv .nil), ?_⟩
      exact ⟨_, Heap.get?_push_of_some _ pr, rfl, _, rfl⟩
    · exact .inl (((if_neg c1).trans (dif_neg c2)).symm.trans e)
/-- a value whose object is locked from here on -/
def tFrz (t : TE) : TE := fun σ H Q => t σ H fun v H1 => ∃ d u, v = .ref d ∧ H1 d = some u ∧ Mut (some u) ∧ ∀ od, Q v (upd H1 d (.frz od u))
theorem pe_frz {e : Expr} {t : TE} (h : PE X e t) : PE X e (tFrz t) := by
  refine ⟨fun pins s σ H Q I q => thn (h.run pins s σ H _ I q) fun u s1 h1 => ?_⟩
  obtain ⟨x, H1, I1, rx, d, o, rfl, ed, mu, q⟩ := h1
  obtain ⟨od, I2⟩ := I1.lock ed mu
  exact ⟨_, _, I2, rx, q od⟩
end
end NB

set_option Elab.async false
set_option linter.all false
set_option maxRecDepth 100000
set_option maxHeartbeats 1000000
/-! tuple(enumerate(a)) of a tuple. -/
namespace NB
open PySem PySem.Spec PyProof.Rows L2

theorem en_len0 : typeLookup (.type "enumerate") "__len__" = pure none := by
  rw [typeLookup_type, builtinLookup_eq_fast]
  kernel_rfl
theorem en_hint0 : typeLookup (.type "enumerate") "__length_hint__" = pure none := by
  rw [typeLookup_type, builtinLookup_eq_fast]
  kernel_rfl
/-- a pair with its number -/
abbrev NumPair (h : Heap) (T : Addr) (j : Nat) (x : Value) : Prop := ∃ tk, h.get? T = some { cls := .type "tuple", data := .seq #[.int (j : Nat) tk, x] }
def GaveN (h : Heap) (ban : List Addr) (xs : Array Value) (Ts : List Addr) : Prop := ∀ (j : Nat) (T : Addr), Ts[j]? = some T → T ∉ ban ∧ ∃ x, xs[j]? = some x ∧ NumPair h T j x
theorem GaveN.keep {h h' : Heap} {ban : List Addr} {xs : Array Value} {Ts : List Addr} (g : GaveN h ban xs Ts) (k : ∀ b o, b ∉ ban → h.get? b = some o → h'.get? b = some o) : GaveN h' ban xs Ts := fun j T e => by
  obtain ⟨n, x, ex, tk, p⟩ := g j T e
  exact ⟨n, x, ex, tk, k _ _ n p⟩
theorem GaveN.snoc {h : Heap} {ban : List Addr} {xs : Array Value} {Ts : List Addr} {T : Addr} {x : Value} (g : GaveN h ban xs Ts) (n : T ∉ ban) (ex : xs[Ts.length]? = some x) (p : NumPair h T Ts.length x) : GaveN h ban xs (Ts ++ [T]) := fun j T' e => by
  rcases Nat.lt_trichotomy j Ts.length with l | l | l
  · rw [List.getElem?_append_left l] at e
    exact g j T' e
  · rw [l, List.getElem?_append_right (Nat.le_refl _), Nat.sub_self] at e
    cases e
    exact ⟨n, x, l ▸ ex, l ▸ p⟩
  · rw [List.getElem?_append_right (by omega)] at e
    rw [List.getElem?_eq_none (by simp; omega)] at e
    cases e
section
variable {prog : Program} {w : World} {A : Around} {E : Value → Shared → Prop} {s : Shared} {e j a S : Addr} {xs : Array Value}
/-- its next pair, while the one before is still in hand -/
theorem enHeldNext {T : Addr} {fp : List Addr} {n i : Nat} {c : Int} {P : Nat → Value → Prop} {St : Nat → Heap → Prop} {was : Value} {f : Bool} {oT : Obj} {Q : Value → Shared → Prop}
    (D : Draws prog w A j fp n P St) (hE : IsEnumHeld s.heap e j c was T f) (hT : s.heap.get? T = some oT) (nTe : T ≠ e) (nTj : T ≠ j) (st : St i s.heap) (lt : i < n) (nej : e ≠ j) (nef : e ∉ fp)
    (hQ : ∀ x h' tk, P i x → IsEnumHeld h' e j (c + 1) was T true → St (i + 1) h' → h'.get? s.heap.objs.size = some { cls := .type "tuple", data := .seq #[.int c tk, x] } →
      h'.objs.size = s.heap.objs.size + 1 → (∀ b o, b ≠ e → b ≠ j → s.heap.get? b = some o → h'.get? b = some o) → Q (.ref s.heap.objs.size) { s with heap := h', toks := tk + 1 }) :
    wpAny (model prog w) A (Builtin.«enumerate.__next__» ⟨[.ref e], []⟩) (fun fin s' => ∃ v, fin = .done (.ret v) ∧ Q v s') E s := by
  obtain ⟨hp, g, d, tk₀, os⟩ := s
  refine (show wpAny _ _ (field (.ref e) 2 >>= _) _ _ _ from wpAny_bind (wpAny_field hE rfl (x := .ref j) rfl (wpAny_bind (D.item i _ _ _ lt st fun x g1 tk px st1 sb1 => ?_))))
  have b1 : Heap.SameBut j hp g1 := sb1
  have E1 : IsEnumHeld g1 e j c was T f := (b1.2 e nej).trans hE
  refine (show wpAny _ _ (field (.ref e) 3 >>= _) _ _ ⟨g1, g, d, tk, os⟩ from wpAny_bind (wpAny_field E1 rfl (x := rawInt c) rfl ?_))
  refine (show wpAny _ _ (field (.ref e) 4 >>= _) _ _ ⟨g1, g, d, tk, os⟩ from wpAny_bind (wpAny_field E1 rfl (x := .none) rfl ?_))
  refine (show wpAny _ _ (mkInt c >>= _) _ _ ⟨g1, g, d, tk, os⟩ from wpAny_bind (wpAny_mkInt ?_))
  refine (show wpAny _ _ (setField (.ref e) 3 (rawInt (c + 1)) >>= _) _ _ ⟨g1, g, d, tk + 1, os⟩ from wpAny_bind (wpAny_setField_rec E1 (by simp) fun g2 E2' sb2 => ?_))
  have b2 : Heap.SameBut e g1 g2 := sb2
  have E2 : IsEnumHeld g2 e j (c + 1) was T f := E2'
  refine (show wpAny _ _ (setField (.ref e) 4 .none >>= _) _ _ ⟨g2, g, d, tk + 1, os⟩ from wpAny_bind (wpAny_setField_rec E2 (by simp) fun g3 E3' sb3 => ?_))
  have b3 : Heap.SameBut e g2 g3 := sb3
  have E3 : IsEnumHeld g3 e j (c + 1) was T f := E3'
  refine (show wpAny _ _ (newTuple [.int c tk, x] >>= _) _ _ ⟨g3, g, d, tk + 1, os⟩ from wpAny_bind (wpAny_newTuple ?_))
  have z3 : g3.objs.size = hp.objs.size := by rw [b3.1, b2.1, b1.1]
  have le : e < hp.objs.size := Heap.lt_size hE
  obtain ⟨g4, e4⟩ : ∃ g4 : Heap, g4 = g3.push { cls := .type "tuple", data := .seq #[.int c tk, x] } := ⟨_, rfl⟩
  have E4 : IsEnumHeld g4 e j (c + 1) was T f := by rw [e4]; exact Heap.get?_push_of_some _ E3
  have t4 : g4.get? hp.objs.size = some { cls := .type "tuple", data := .seq #[.int c tk, x] } := by rw [e4, ← z3]; exact Heap.get?_push_size _ rfl
  have z4 : g4.objs.size = hp.objs.size + 1 := by rw [e4, Heap.size_push, z3]
  have up : ∀ b o, b ≠ e → g1.get? b = some o → g4.get? b = some o := fun b o n q => by rw [e4]; exact Heap.get?_push_of_some _ (b3.extBut b o n (b2.extBut b o n q))
  have k4 : ∀ b o, b ≠ e → b ≠ j → hp.get? b = some o → g4.get? b = some o := fun b o n m q => up b o n (b1.extBut b o m q)
  have s4 : St (i + 1) g4 := D.frame _ _ _ st1 fun b hb o q => up b o (fun z => nef (z ▸ hb)) q
  rw [← e4]
  show wpAny _ _ (Builtin.SmallTypes.ownedTupleIsFree (.ref e) >>= _) _ _ ⟨g4, g, d, tk + 1, os⟩
  rw [z3]
  refine wpAny_bind (wpAny_tupleHeld_enum (s := ⟨g4, g, d, tk + 1, os⟩) E4 (k4 T oT nTe nTj hT) fun g5 E5 sb5 => ?_)
  have b5 : Heap.SameBut e g4 g5 := sb5
  simp only [Bool.false_eq_true, if_false]
  exact wpAny_pure ⟨_, rfl, hQ x g5 tk px E5 (D.frame _ _ _ s4 fun b hb o q => b5.extBut b o (fun z => nef (z ▸ hb)) q) (b5.extBut _ _ (Nat.ne_of_gt le) t4) (by show g5.objs.size = hp.objs.size + 1; rw [b5.1, z4]) fun b o n m q => b5.extBut b o n (k4 b o n m q)⟩
/-- an enumerate of a tuple behind k turns -/
def Est (h : Heap) (e j a : Addr) (xs : Array Value) (k : Nat) (Ts : List Addr) : Prop :=
  ((∃ was, IsEnum h e j (k : Nat) was) ∧ Ts = [] ∨ ∃ T ∈ Ts, ∃ f was, IsEnumHeld h e j (k : Nat) was T f) ∧ h.IsTupleIter j a k ∧ h.IsTuple a xs
theorem Est.keep {h h' : Heap} {k : Nat} {Ts : List Addr} (st : Est h e j a xs k Ts) (kp : ∀ b o, b ≠ S → h.get? b = some o → h'.get? b = some o) (n : S ∉ [e, j, a]) : Est h' e j a xs k Ts := by
  simp only [List.mem_cons, List.not_mem_nil, or_false, not_or] at n
  obtain ⟨n1, n2, n3⟩ := n
  obtain ⟨zs, t, q⟩ := st
  refine ⟨?_, t.at fun o y => kp _ o (Ne.symm n2) y, q.at fun o y => kp _ o (Ne.symm n3) y⟩
  rcases zs with ⟨⟨was, z0⟩, y⟩ | ⟨T, mT, f, was, zh⟩
  · exact .inl ⟨⟨was, kp _ _ (Ne.symm n1) z0⟩, y⟩
  · exact .inr ⟨T, mT, f, was, kp _ _ (Ne.symm n1) zh⟩
structure EnApart (e j a : Addr) : Prop where
  ej : e ≠ j
  ea : e ≠ a
  aj : a ≠ j
theorem en_turn {k : Nat} {Ts : List Addr} {x : Value} {Q : Option Value → Shared → Prop} (hh : A.handled = none) (D : EnApart e j a) (st : Est s.heap e j a xs k Ts) (hT : ∀ T ∈ Ts, T ≠ e ∧ T ≠ j ∧ ∃ o, s.heap.get? T = some o) (hx : xs[k]? = some x)
    (hQ : ∀ h' tk, Est h' e j a xs (k + 1) (Ts ++ [s.heap.objs.size]) → NumPair h' s.heap.objs.size k x → (∀ b o, b ∉ [e, j] → s.heap.get? b = some o → h'.get? b = some o) → Q (some (.ref s.heap.objs.size)) { s with heap := h', toks := tk }) :
    wpAny (model prog w) A (pyNext (.ref e)) Q E s := by
  obtain ⟨zs, t, q⟩ := st
  have lt : k < xs.size := (Array.getElem?_eq_some_iff.mp hx).1
  have dr := Draws.tuple (prog := prog) (w := w) (A := A.in1) hh j a D.aj xs
  have nef : e ∉ [j, a] := by simp [D.ej, D.ea]
  rcases zs with ⟨⟨was, z0⟩, y⟩ | ⟨T, mT, f, was, zh⟩
  · refine wpAny_pyNext_enum_itemD dr z0 ⟨t, q⟩ lt D.ej nef fun u h' tk hu ho st' ht hsz hk => ?_
    have eu : u = x := Option.some.inj (hu.symm.trans hx)
    subst eu
    refine hQ h' (tk + 1) ⟨.inr ⟨_, List.mem_append_right _ (List.mem_singleton.mpr rfl), false, u, ?_⟩, st'.1, st'.2⟩ ⟨tk, ht⟩ fun b o nb y => ?_
    · rw [show ((k + 1 : Nat) : Int) = (k : Int) + 1 by omega]
      exact ho
    · simp only [List.mem_cons, List.not_mem_nil, or_false, not_or] at nb
      exact hk b o nb.1 nb.2 y
  · obtain ⟨nTe, nTj, oT, eT⟩ := hT T mT
    have ty : s.TypeIs (.ref e) "enumerate" := ⟨_, zh, rfl⟩
    unfold pyNext
    refine wpAny_bind (wpAny_attempt (wpAny_callSpecial?_slot (name := Str.ofString "__next__") ty F.slot_enumerate_next
      (wpAny_call_entry F.slot_enumerate_next ty F.entry_enumerate_next (enHeldNext dr zh eT nTe nTj ⟨t, q⟩ lt D.ej nef fun u h' tk hu ho st' ht hsz hk => wpAny_pure ?_) (F.args_enumerate_next_1 _))))
    have eu : u = x := Option.some.inj (hu.symm.trans hx)
    subst eu
    refine hQ h' (tk + 1) ⟨.inr ⟨T, List.mem_append_left _ mT, true, was, ?_⟩, st'.1, st'.2⟩ ⟨tk, ht⟩ fun b o nb y => ?_
    · rw [show ((k + 1 : Nat) : Int) = (k : Int) + 1 by omega]
      exact ho
    · simp only [List.mem_cons, List.not_mem_nil, or_false, not_or] at nb
      exact hk b o nb.1 nb.2 y
theorem en_over {k : Nat} {Ts : List Addr} {Q : Option Value → Shared → Prop} (hh : A.handled = none) (D : EnApart e j a) (st : Est s.heap e j a xs k Ts) (hk : k = xs.size)
    (hQ : ∀ h', (∀ b o, b ∉ [e, j] → s.heap.get? b = some o → h'.get? b = some o) → Q none { s with heap := h' }) : wpAny (model prog w) A (pyNext (.ref e)) Q E s := by
  obtain ⟨zs, t, q⟩ := st
  subst hk
  have dr := Draws.tuple (prog := prog) (w := w) (A := A.in1) hh j a D.aj xs
  rcases zs with ⟨⟨was, z0⟩, y⟩ | ⟨T, mT, f, was, zh⟩
  · refine wpAny_pyNext_enum_endD dr z0 ⟨t, q⟩ fun h' kp => hQ h' fun b o nb y => ?_
    simp only [List.mem_cons, List.not_mem_nil, or_false, not_or] at nb
    exact kp b o nb.2 y
  · have ty : s.TypeIs (.ref e) "enumerate" := ⟨_, zh, rfl⟩
    unfold pyNext
    refine wpAny_bind (wpAny_attempt (wpAny_callSpecial?_slot (name := Str.ofString "__next__") ty F.slot_enumerate_next
      (wpAny_call_entry F.slot_enumerate_next ty F.entry_enumerate_next ?_ (F.args_enumerate_next_1 _))))
    refine (show wpAny _ _ (field (.ref e) 2 >>= _) _ _ _ from wpAny_bind (wpAny_field zh rfl (x := .ref j) rfl (wpAny_bind (dr.done _ _ _ ⟨t, q⟩ fun h' x kp hx => ?_))))
    obtain ⟨o, ho, hc⟩ := hx
    refine wpAny_bind (wpAny_isInstance (T := "StopIteration") (b := true) ⟨o, ho, hc⟩ isSubtype_stop (wpAny_pure (hQ h' fun b o nb y => ?_)))
    simp only [List.mem_cons, List.not_mem_nil, or_false, not_or] at nb
    exact kp b o nb.2 y
theorem en_loop {R : Result → Shared → Prop} (hh : A.handled = none) (D : EnApart e j a) (nS : S ∉ [e, j, a]) (hz : xs.size ≤ 1000) (res : Value) :
    ∀ (m k : Nat) (s : Shared) (Ts : List Addr) (c : Nat), xs.size - k = m → k ≤ xs.size → Ts.length = k → Est s.heap e j a xs k Ts → GaveN s.heap [S, e, j] xs Ts → listAt s.heap S (Ts.map Value.ref).toArray c →
    (∀ (h' : Heap) (Us : List Addr) (c' tk : Nat), (∀ b o, b ∉ [S, e, j] → s.heap.get? b = some o → h'.get? b = some o) → Us.length = xs.size → (∀ T ∈ Us, T ∈ Ts ∨ s.heap.objs.size ≤ T) → GaveN h' [S, e, j] xs Us → listAt h' S (Us.map Value.ref).toArray c' → R (.ok (.ret res)) { s with heap := h', toks := tk }) →
    codeAny (model prog w) A (.builtin "list.extend.loop" ⟨[.ref S, .ref e, res], []⟩) R s := by
  have hb : ∀ b, b ∉ [S, e, j] → b ∉ [e, j] := fun b h1 h2 => h1 (List.mem_cons_of_mem _ h2)
  have sn : S ∉ [e, j] := fun h => nS (by
    simp only [List.mem_cons, List.not_mem_nil, or_false] at h ⊢
    rcases h with h | h <;> simp [h])
  intro m
  induction m with
  | zero =>
    intro k s Ts c em le lT st gv lS fin
    have ek : k = xs.size := by omega
    refine codeAny_builtin F.entry_extend_loop ?_
    rw [Around.under_plainId F.plain_extend_loop _]
    show wpAny _ A.in1 (pyNext (.ref e) >>= _) _ _ s
    refine wpAny_bind (en_over (A := A.in1) hh D st ek fun h' kp => wpAny_pure ?_)
    exact fin h' Ts c s.toks (fun b o n y => kp b o (hb b n) y) (by omega) (fun T h => .inl h) (gv.keep fun b o n y => kp b o (hb b n) y) (kp _ _ sn lS)
  | succ m ih =>
    intro k s Ts c em le lT st gv lS fin
    have lk : k < xs.size := by omega
    have al : ∀ T ∈ Ts, T ≠ e ∧ T ≠ j ∧ ∃ o, s.heap.get? T = some o := fun T mT => by
      obtain ⟨i, hi, y⟩ := List.getElem_of_mem mT
      obtain ⟨nb, _, _, _, p⟩ := gv i T (by rw [List.getElem?_eq_getElem hi, y])
      simp only [List.mem_cons, List.not_mem_nil, or_false, not_or] at nb
      exact ⟨nb.2.1, nb.2.2, _, p⟩
    refine codeAny_builtin F.entry_extend_loop ?_
    rw [Around.under_plainId F.plain_extend_loop _]
    show wpAny _ A.in1 (pyNext (.ref e) >>= _) _ _ s
    have ex : xs[k]? = some xs[k] := Array.getElem?_eq_getElem lk
    have nT : s.heap.objs.size ∉ [S, e, j] := fun h => by
      have lt : ∀ {c o}, s.heap.get? c = some o → s.heap.objs.size ≠ c := fun y => Nat.ne_of_gt (Heap.lt_size y)
      obtain ⟨zs, ⟨_, t, _⟩, q⟩ := st
      simp only [List.mem_cons, List.not_mem_nil, or_false] at h
      rcases h with h | h | h
      · exact lt lS h
      · rcases zs with ⟨⟨_, z0⟩, _⟩ | ⟨T, mT, f, was, zh⟩
        · exact lt z0 h
        · exact lt zh h
      · exact lt t h
    refine wpAny_bind (en_turn (A := A.in1) hh D st al ex fun h' tk st' pr kp => ?_)
    have lS' : listAt h' S (Ts.map Value.ref).toArray c := kp _ _ sn lS
    show wpAny _ A.in1 (updateSeq S (·.push (.ref s.heap.objs.size)) >>= _) _ _ _
    have up : ∀ b o, b ≠ S → h'.get? b = some o → (h'.update S (Obj.mapSeq (·.push (Value.ref s.heap.objs.size)))).get? b = some o := fun b o n y => (Heap.get?_update_other _ _ (Ne.symm n)).trans y
    have gv' : GaveN h' [S, e, j] xs (Ts ++ [s.heap.objs.size]) := (gv.keep fun b o n y => kp b o (hb b n) y).snoc nT (by rw [lT]; exact ex) (by rw [lT]; exact pr)
    refine wpAny_bind (wpAny_updateSeq lS' rfl (wpAny_pure ⟨plainId_quiet F.plain_extend_loop _, ih (k + 1) _ (Ts ++ [s.heap.objs.size]) (c + 1) (by omega) lk (by rw [List.length_append, lT]; rfl) (st'.keep up nS) (gv'.keep fun b o n y => up b o (fun z => n (by rw [z]; exact List.mem_cons_self)) y) ?_ fun h'' Us c' tk' kk lU mU gU lU' => ?_⟩) ?_ ?_)
    · have := Heap.get?_update_self (Obj.mapSeq (·.push (Value.ref s.heap.objs.size))) lS' rfl
      refine this.trans ?_
      have sz : (((Ts.map Value.ref).toArray.push (Value.ref s.heap.objs.size)).size == (Ts.map Value.ref).toArray.size) = false := by
        rw [Array.size_push]
        exact beq_eq_false_iff_ne.mpr (by omega)
      have ea : (Ts.map Value.ref).toArray.push (Value.ref s.heap.objs.size) = ((Ts ++ [s.heap.objs.size]).map Value.ref).toArray := by simp
      show some (Obj.mapSeq _ _) = _
      unfold Obj.mapSeq
      rw [ea] at sz
      simp only [ea, sz]
      rfl
    · refine fin h'' Us c' tk' (fun b o n y => kk b o n (up b o (fun z => n (by rw [z]; exact List.mem_cons_self)) (kp b o (hb b n) y))) lU (fun T h => ?_) gU lU'
      rcases mU T h with h | h
      · rcases List.mem_append.mp h with h | h
        · exact .inl h
        · exact .inr (by rw [List.mem_singleton.mp h]; exact Nat.le_refl _)
      · refine .inr (Nat.le_trans ?_ h)
        obtain ⟨_, pr'⟩ := pr
        have := Heap.lt_size pr'
        show s.heap.objs.size ≤ (h'.update S _).objs.size
        have y : (h'.update S (Obj.mapSeq (·.push (Value.ref s.heap.objs.size)))).objs.size = h'.objs.size := Heap.size_update ..
        rw [y]
        exact Nat.le_of_lt this
    · show (Ts.map Value.ref).toArray.size ≤ sizeLine
      simp only [List.size_toArray, List.length_map]
      exact Nat.le_of_lt (small1000 (by omega))
    · show ((Ts.map Value.ref).toArray.push _).size ≤ sizeLine + 1
      simp only [Array.size_push, List.size_toArray, List.length_map]
      have := small1000 (n := Ts.length) (by omega)
      omega

/-- the list of what it gives -/
theorem en_collect {Q : List Value → Shared → Prop} (hh : A.handled = none) (D : EnApart e j a) (hz : xs.size ≤ 1000) (st : Est s.heap e j a xs 0 []) (z0 : ∃ was, IsEnum s.heap e j 0 was)
    (hQ : ∀ (h' : Heap) (Us : List Addr) (tk : Nat), (∀ b o, b ∉ [e, j] → s.heap.get? b = some o → h'.get? b = some o) → Us.length = xs.size → (∀ T ∈ Us, s.heap.objs.size ≤ T) → GaveN h' [e, j] xs Us → s.heap.objs.size ≤ h'.objs.size → Q (Us.map Value.ref) { s with heap := h', toks := tk }) :
    wpAny (model prog w) A (collect (.ref e)) Q E s := by
  have lt : ∀ {c o}, s.heap.get? c = some o → s.heap.objs.size ≠ c := fun y => Nat.ne_of_gt (Heap.lt_size y)
  obtain ⟨was, z0⟩ := z0
  have nS : s.heap.objs.size ∉ [e, j, a] := fun h => by
    obtain ⟨_, ⟨_, p1, _⟩, ⟨_, p2, _⟩⟩ := st
    simp only [List.mem_cons, List.not_mem_nil, or_false] at h
    rcases h with h | h | h
    · exact lt z0 h
    · exact lt p1 h
    · exact lt p2 h
  unfold collect
  refine wpAny_bind (wpAny_runValue (codeAny_builtin F.entry_proto_collect ?_))
  rw [Around.under_plainId F.plain_proto_collect _]
  show wpAny _ A.in1 (newList [] >>= fun l => again (.builtin "list.__iadd__" ⟨[l, .ref e], []⟩)) _ _ s
  refine wpAny_bind (wpAny_newObj_type ?_)
  refine wpAny_pure ⟨plainId_quiet F.plain_list_iadd _, codeAny_builtin F.entry_list_iadd ?_⟩
  rw [Around.under_plainId F.plain_list_iadd _]
  obtain ⟨S, eS⟩ : ∃ S, S = s.heap.objs.size := ⟨_, rfl⟩
  rw [← eS] at nS lt ⊢
  obtain ⟨g, eg⟩ : ∃ g : Heap, g = s.heap.push { cls := .type "list", data := .seq ([] : List Value).toArray } := ⟨_, rfl⟩
  rw [← eg]
  have up : ∀ b o, s.heap.get? b = some o → g.get? b = some o := fun b o y => by rw [eg]; exact Heap.get?_push_of_some _ y
  have gS : listAt g S #[] 0 := by
    rw [eg, eS]
    exact Heap.get?_push_size _ rfl
  have gz : IsEnum g e j 0 was := up _ _ z0
  have ty : ({ s with heap := g } : Shared).TypeIs (.ref e) "enumerate" := ⟨_, gz, rfl⟩
  have nz : S ≠ e := fun y => nS (by simp [y])
  show wpAny _ A.in1 (Builtin.List.listExtendWith (.ref S) (.ref e) (.ref S)) _ _ { s with heap := g }
  unfold Builtin.List.listExtendWith
  refine wpAny_bind (wpAny_typeOf ty ?_)
  have k1 : Builtin.List.listSameRef (.ref S) (.ref e) = false := by simp [Builtin.List.listSameRef, nz]
  have k2 : (Value.type "enumerate" == Value.type "list") = false := by decide
  have k3 : (Value.type "enumerate" == Value.type "tuple") = false := by decide
  simp only [k1, k2, k3, Bool.or_false, Bool.false_eq_true, if_false]
  refine wpAny_bind (wpAny_pyIter_enum (s := { s with heap := g }) gz ?_)
  refine wpAny_bind (wpAny_holding ?_)
  unfold Builtin.List.listLengthHint
  refine wpAny_bind (wpAny_specialOf ty en_len0 ?_)
  show wpAny _ A.in1 (specialOf (Value.ref e) (Str.ofString "__length_hint__") >>= _) _ _ _
  refine wpAny_bind (wpAny_specialOf ty en_hint0 ?_)
  refine wpAny_pure ?_
  show wpAny _ A.in1 (rule "list.extend.makes-room" >>= fun _ => Builtin.List.listTouch (.ref S) >>= fun _ => again (.builtin "list.extend.loop" ⟨[.ref S, .ref e, .ref S], []⟩)) _ _ _
  refine wpAny_bind (wpAny_rule (wpAny_bind ?_))
  show wpAny _ A.in1 (updateSeq S (·.push .none) >>= fun _ => updateSeq S (·.pop)) _ _ _
  refine wpAny_bind (wpAny_updateSeq (s := { s with heap := g }) gS rfl ?_)
  have g2 := Heap.get?_update_self (Obj.mapSeq (·.push Value.none)) gS rfl
  refine wpAny_updateSeq g2 rfl ?_
  have g3 := Heap.get?_update_self (Obj.mapSeq (·.pop)) g2 rfl
  have oth : ∀ b o, b ≠ S → g.get? b = some o → ((g.update S (Obj.mapSeq (·.push Value.none))).update S (Obj.mapSeq (·.pop))).get? b = some o := fun b o n y => (Heap.get?_update_other _ _ (Ne.symm n)).trans ((Heap.get?_update_other _ _ (Ne.symm n)).trans y)
  have st' : Est ((g.update S (Obj.mapSeq (·.push Value.none))).update S (Obj.mapSeq (·.pop))) e j a xs 0 [] := by
    refine Est.keep (S := S) (h := g) ?_ oth nS
    obtain ⟨_, t1, q1⟩ := st
    exact ⟨.inl ⟨⟨was, gz⟩, rfl⟩, t1.at fun o y => up _ o y, q1.at fun o y => up _ o y⟩
  have sz : ((g.update S (Obj.mapSeq (·.push Value.none))).update S (Obj.mapSeq (·.pop))).objs.size = s.heap.objs.size + 1 := by
    have a1 : ((g.update S (Obj.mapSeq (·.push Value.none))).update S (Obj.mapSeq (·.pop))).objs.size = (g.update S (Obj.mapSeq (·.push Value.none))).objs.size := Heap.size_update ..
    have a2 : (g.update S (Obj.mapSeq (·.push Value.none))).objs.size = g.objs.size := Heap.size_update ..
    rw [a1, a2, eg, Heap.size_push]
  refine wpAny_pure ⟨plainId_quiet F.plain_extend_loop _, en_loop hh D nS hz _ xs.size 0 _ [] _ (by omega) (Nat.zero_le _) rfl st' (fun j T e => by simp at e) g3 fun h' Us c' tk kp lU mU gU lU' => ?_⟩
  have nb : ∀ {b o}, s.heap.get? b = some o → b ≠ S := fun y z => lt y z.symm
  show wpAny _ A (load S >>= _) _ _ { s with heap := h', toks := tk }
  refine wpAny_bind (wpAny_load lU' (wpAny_pure ?_))
  refine hQ h' Us tk (fun b o n y => kp b o (fun m => ?_) (oth b o (nb y) (up b o y))) lU (fun T h => ?_) (fun i T y => ?_) ?_
  · rcases List.mem_cons.mp m with m | m
    · exact nb y m
    · exact n m
  · rcases mU T h with h | h
    · exact absurd h List.not_mem_nil
    · have : s.heap.objs.size + 1 ≤ T := by rw [← sz]; exact h
      exact Nat.le_of_succ_le this
  · obtain ⟨n, x, ex, p⟩ := gU i T y
    exact ⟨fun m => n (List.mem_cons_of_mem _ m), x, ex, p⟩
  · rw [← eS]
    exact Nat.le_of_lt (Heap.lt_size lU')
theorem en_tuple {Q : Value → Shared → Prop} (hh : A.handled = none) (D : EnApart e j a) (hz : xs.size ≤ 1000) (st : Est s.heap e j a xs 0 []) (z0 : ∃ was, IsEnum s.heap e j 0 was)
    (hQ : ∀ (h' : Heap) (Us : List Addr) (tk : Nat), (∀ b o, b ∉ [e, j] → s.heap.get? b = some o → h'.get? b = some o) → Us.length = xs.size → (∀ T ∈ Us, s.heap.objs.size ≤ T) → GaveN h' [e, j] xs Us → s.heap.objs.size ≤ h'.objs.size →
      Q (.ref h'.objs.size) { s with heap := h'.push { cls := .type "tuple", data := .seq (Us.map Value.ref).toArray }, toks := tk }) :
    wpAny (model prog w) A (call (.type "tuple") [.ref e]) Q E s := by
  refine callType_codes (Q₁ := fun o t => t.TypeIs o "tuple" ∧ Q o t) F.called_tuple (F.typeCall_tuple_1 _) F.entry_object_init ?_ fun o t ht => ⟨ht.1, F.args_object_init_2 o _, object_init_meets F.called_tuple.init.lookup F.called_tuple.made (by decide) prog w A.in1 _ t ⟨ht.1, rfl, ht.2⟩⟩
  have ty : s.TypeIs (.ref e) "enumerate" := ⟨_, z0.choose_spec, rfl⟩
  refine codeAny_of_tree ?_
  show wpAny _ A.in1.in1 (do checkBuiltinCall "tuple.__new__" ⟨[.type "tuple", .ref e], []⟩; again (.builtin "tuple.__new__" ⟨[.type "tuple", .ref e], []⟩)) _ _ s
  refine wpAny_bind (wpAny_of_eq (F.newCall_tuple_1 _) (wpAny_pure ⟨plainId_quiet F.plain_tuple_new _, codeAny_builtin F.entry_tuple_new ?_⟩))
  rw [Around.under_plainId F.plain_tuple_new _]
  have f1 := sub_tuple_self
  have f2 := init_tuple_lookup
  have f3 := madeHere_tuple
  have hh2 : A.in1.in1.handled = none := hh
  wp_walk using wpAny_typeOf ty, en_collect (A := A.in1.in1) hh2 D hz st z0
  intro h' Us tk kp lU mU gU zU
  show wpAny _ _ (Builtin.Tuple.tupleExact (Us.map Value.ref).toArray >>= fun v => ret v) _ _ _
  unfold Builtin.Tuple.tupleExact
  refine wpAny_bind (wpAny_newObj_type (wpAny_pure ⟨⟨_, Heap.get?_push_size _ rfl, rfl⟩, hQ h' Us tk kp lU mU gU zU⟩) ?_)
  show (Us.map Value.ref).toArray.size ≤ sizeLine
  rw [List.size_toArray, List.length_map, lU]
  exact Nat.le_of_lt (small1000 hz)
end
section
variable {X : Cx}
/-- tuple(enumerate(a)) of a tuple: Us the new pairs -/
def tTupEn (K : PySem.W.Frag) (ta : TA) : TE := fun σ H Q => ta σ H fun vs H1 => ∃ a xs, vs = [.ref a] ∧ SqT K H1 a xs ∧ xs.length ≤ 1000 ∧
  ∀ H2 q (Us : List Addr), Same H1 H2 → H1 q = none → H2 q = some (.tup (Us.map V.ref)) → Us.length = xs.length → (∀ (j : Nat) T, Us[j]? = some T → ∃ x, xs[j]? = some x ∧ H2 T = some (.tup [.int (j : Nat), x])) → Q (.ref q) H2
theorem pe_tupEn {e : Expr} {ta : TA} {p p2 pos pos2 : Pos} (hc : X.calm = true) (hg : Gl X "tuple") (hm : X.mg "tuple" = none) (hg2 : Gl X "enumerate") (hm2 : X.mg "enumerate" = none) (ha : PA X [e] ta)
    (hs : starEach [e] X.env = [(false, eval e X.env)] := by rfl)
    (hs1 : starEach [.Call (.Name "enumerate" p2) [e] [] pos2] X.env = (false, eval (.Call (.Name "enumerate" p2) [e] [] pos2) X.env) :: starEach [] X.env := by rfl) :
    PE X (.Call (.Name "tuple" p) [.Call (.Name "enumerate" p2) [e] [] pos2] [] pos) (tTupEn X.K ta) := by
  refine ⟨fun pins s σ H Q I h => ?_⟩
  refine Call_ (ld_blt I hg hm boot_tuple (PyProof.Rows.callWith_type1 (args_cons ?_ hs1) hs1))
  refine Call_ (ld_blt I hg2 hm2 boot_enumerate (PyProof.Rows.callWith_type1 (thn (ha.run pos2 pins s σ H _ I h) fun us s1 h1 => ?_) hs rfl))
  obtain ⟨vs, H1, I1, r1, a, xs, rfl, ha1, h1000, q⟩ := h1
  obtain ⟨u1, rfl, ru1⟩ := vals1 r1
  obtain rfl : u1 = Value.ref a := ru1
  obtain ⟨is1, v1, p1, _⟩ := I1.tuple ha1
  have e1 : is1.length = xs.length := v1.length.symm
  obtain ⟨oa, ga, _⟩ := id p1
  have la : a < s1.heap.objs.size := Heap.lt_size ga
  refine enumT (items := is1.toArray) p1 fun h' he hit hk => args_nil ?_
  have D : EnApart (s1.heap.objs.size + 1) s1.heap.objs.size a := ⟨Nat.succ_ne_self _, Nat.ne_of_gt (Nat.lt_succ_of_lt la), Nat.ne_of_lt la⟩
  have st : Est h' (s1.heap.objs.size + 1) s1.heap.objs.size a is1.toArray 0 [] := ⟨.inl ⟨⟨_, he⟩, rfl⟩, hit, (show Heap.IsTuple _ _ _ from p1).at fun o y => hk _ o y⟩
  have hh : X.A.handled = none := I1.ok.hd hc
  have hsz : s1.heap.objs.size ≤ h'.objs.size := Nat.le_of_succ_le (Nat.le_of_lt (Heap.lt_size he))
  refine en_tuple (s := { s1 with heap := h' }) hh D (by simp only [List.size_toArray]; omega) st ⟨_, he⟩ fun g Us tk kp lU mU gU zU => ?_
  have lU' : Us.length = xs.length := by
    rw [lU, List.size_toArray]
    omega
  have old : ∀ b' o, s1.heap.get? b' = some o → g.get? b' = some o := fun b' o y => by
    have l := Heap.lt_size y
    refine kp b' o (fun m => ?_) (hk b' o y)
    simp only [List.mem_cons, List.not_mem_nil, or_false] at m
    have l' : b' < s1.heap.objs.size := l
    rcases m with m | m <;> (rw [m] at l'; first | exact absurd l' (Nat.lt_irrefl _) | exact absurd l' (Nat.not_lt.mpr (Nat.le_add_right _ _)))
  have big : ∀ T ∈ Us, s1.heap.objs.size ≤ T := fun T hT => Nat.le_trans hsz (mU T hT)
  have gsz : s1.heap.objs.size ≤ g.objs.size := Nat.le_trans hsz zU
  have idx : ∀ T ∈ Us, ∃ (i : Nat) (x : V) (u : Value) (t : Tok), Us[i]? = some T ∧ xs[i]? = some x ∧ RelV x u ∧ g.get? T = some { cls := .type "tuple", data := .seq #[.int (i : Nat) t, u] } := fun T hT => by
    obtain ⟨i, hi, y⟩ := List.getElem_of_mem hT
    have ei : Us[i]? = some T := by rw [List.getElem?_eq_getElem hi, y]
    obtain ⟨_, u, eu, t, pr⟩ := gU i T ei
    have eu' : is1[i]? = some u := by simpa using eu
    have ix : i < xs.length := by
      have := (List.getElem?_eq_some_iff.mp eu').1
      omega
    obtain ⟨u', ru, hu⟩ := v1.get (List.getElem?_eq_getElem ix)
    rw [eu'] at ru
    cases ru
    exact ⟨i, xs[i], u, t, ei, List.getElem?_eq_getElem ix, hu, pr⟩
  let H2 : Hp := fun c => if c = g.objs.size then some (.tup (Us.map V.ref)) else if h : c ∈ Us then some (.tup [.int ((idx c h).choose : Nat), (idx c h).choose_spec.choose]) else H1 c
  have nUg : ∀ T ∈ Us, T ≠ g.objs.size := fun T hT => by
    obtain ⟨_, _, _, _, _, _, _, pr⟩ := idx T hT
    exact Nat.ne_of_lt (Heap.lt_size pr)
  have atq : H2 g.objs.size = some (.tup (Us.map V.ref)) := if_pos rfl
  have atT : ∀ (i : Nat) (T : Addr), Us[i]? = some T → ∃ x, xs[i]? = some x ∧ H2 T = some (.tup [.int (i : Nat), x]) := fun i T ei => by
    have hT := List.mem_of_getElem? ei
    obtain ⟨_, u, eu, t, pr⟩ := gU i T ei
    have e2 : H2 T = some (.tup [.int ((idx T hT).choose : Nat), (idx T hT).choose_spec.choose]) := (if_neg (nUg T hT)).trans (dif_pos hT)
    obtain ⟨u2, t2, _, ex2, hu2, pr2⟩ := (idx T hT).choose_spec.choose_spec
    have ed := congrArg Obj.data (Option.some.inj (pr.symm.trans pr2))
    injection ed with ea _
    have el := congrArg Array.toList ea
    have el' : [Value.int (i : Nat) t, u] = [.int ((idx T hT).choose : Nat) t2, u2] := el
    injection el' with ei2 el2
    injection ei2 with ei3 _
    have ei4 : i = (idx T hT).choose := by omega
    refine ⟨_, by rw [ei4]; exact ex2, ?_⟩
    rw [e2]
    exact congrArg (fun n : Int => some (HO.tup [V.int n, (idx T hT).choose_spec.choose])) ei3.symm
  have sam : ∀ c u, H1 c = some u → H2 c = some u := fun c u y => by
    have l : c < s1.heap.objs.size := (I1.hok c u y).lt
    have n1 : c ≠ g.objs.size := Nat.ne_of_lt (Nat.lt_of_lt_of_le l gsz)
    have n2 : c ∉ Us := fun m => absurd (Nat.lt_of_lt_of_le l (big c m)) (Nat.lt_irrefl _)
    exact (if_neg n1).trans ((dif_neg n2).trans y)
  refine ⟨.ref g.objs.size, H2, ?_, rfl, q H2 _ Us sam (I1.hok.fresh gsz) atq lU' atT⟩
  show Inv X pins σ H2 { s1 with heap := g.push { cls := .type "tuple", data := .seq (Us.map Value.ref).toArray }, toks := tk }
  refine inv_laid (t' := tk) I1 (fun c o y => Heap.get?_push_of_some _ (old c o y)) sam fun c u y => ?_
  by_cases c1 : c = g.objs.size
  · subst c1
    rw [atq] at y
    cases y
    refine .inr ⟨gsz, ?_, Us.map Value.ref, vals_refs Us, IsTup.new _ _⟩
    rw [List.length_map, lU']
    exact Nat.le_of_lt (small1000 h1000)
  · by_cases c2 : c ∈ Us
    · obtain ⟨i, hi, ec⟩ := List.getElem_of_mem c2
      have ei : Us[i]? = some c := by rw [List.getElem?_eq_getElem hi, ec]
      obtain ⟨x, ex, e2⟩ := atT i c ei
      rw [e2] at y
      cases y
      obtain ⟨_, u, eu, t, pr⟩ := gU i c ei
      have eu' : is1[i]? = some u := by simpa using eu
      obtain ⟨u', ru, hu⟩ := v1.get ex
      rw [eu'] at ru
      cases ru
      refine .inr ⟨big c c2, (show 2 ≤ sizeLine by decide), [.int (i : Nat) t, u], .cons ⟨_, rfl⟩ (.cons hu .nil), ?_⟩
      exact ⟨_, Heap.get?_push_of_some _ pr, rfl, _, rfl⟩
    · exact .inl (((if_neg c1).trans (dif_neg c2)).symm.trans y)
end
end NB

set_option Elab.async false
set_option linter.all false
set_option maxRecDepth 100000
namespace K66
open PySem PySem.Spec PyProof.Rows L2 NB

/-! ### the hall -/
structure HallTxt (K : PySem.W.Frag) (C : Addr) : Prop where
  cl : Cls K C
  n1 : NoAttr K C "now"
  n2 : NoAttr K C "past"
def haF (s p : V) : List (Str × V) := [("now", s), ("past", p)]
theorem hk1 {s p : V} : (haF s p).lookup ("now" : Str) = some s := by
  simp [haF, List.lookup]
theorem hk2 {s p : V} : (haF s p).lookup ("past" : Str) = some p := by
  have n0 : (("past" : Str) == "now") = false := by decide +kernel
  simp [haF, List.lookup, n0]
theorem hp12 {s p : V} : putF "past" p (putF "now" s []) = haF s p := by
  have n1 : ¬ (("now" : Str) = "past") := by decide +kernel
  simp [haF, putF, n1]
/-- what isinstance says of a plan, and of data -/
structure PlanIs (K : PySem.W.Frag) (CP : Addr) : Prop where
  ic : C8.InsC K CP
  no : ∀ d : PyData, PySem.W.kitOne K (.type (tyD d)) (.ref CP) = some false
theorem StX.farL {CS C : Addr} {H H' : Hp} {s : Addr} {own l : List Addr} {σ : Sta} (a : StX CS C H s own σ) (k : ButL l H H') (tk : TupK H H') (n : ∀ b ∈ own, b ∉ l) : StX CS C H' s own σ := by
  obtain ⟨ds, tp, R, Hs, Ls, zs, rs, ls, e, a⟩ := a
  subst e
  have m : ∀ b, b ∈ [s, R, Hs, Ls] → b ∉ l := fun b hb => n b (List.mem_append_left _ hb)
  exact ⟨ds, tp, R, Hs, Ls, zs, rs, ls, rfl, ⟨k _ _ (m s (by simp)) a.fs, tk _ _ a.ft, k _ _ (m R (by simp)) a.fr, a.fru.tk tk, k _ _ (m Hs (by simp)) a.fh, a.fhs.farL k tk (fun b hb => n b (List.mem_append_right _ hb)), k _ _ (m Ls (by simp)) a.fl, a.fla.tk tk, a.fnd⟩⟩
/-- a hall in the heap -/
def HallAt (CH CS C : Addr) (H : Hp) (x s p : Addr) (own : List Addr) (σ : Sta) : Prop := ∃ dx, H x = some (.ins CH dx (haF (.ref s) (.ref p))) ∧ StX CS C H s own σ
theorem HallAt.same {CH CS C : Addr} {H H' : Hp} {x s p : Addr} {own : List Addr} {σ : Sta} (a : HallAt CH CS C H x s p own σ) (k : Same H H') : HallAt CH CS C H' x s p own σ := by
  obtain ⟨dx, e, a⟩ := a
  exact ⟨dx, k _ _ e, a.same k⟩
/-- rules with their places for numbers -/
def numR (rs : List Rl) : List (Int × Rl) := rs.zipIdx.map fun p => (((p.2 : Nat) : Int), p.1)
theorem numR_len (rs : List Rl) : (numR rs).length = rs.length := by
  unfold numR
  rw [List.length_map, List.length_zipIdx]
theorem numR_get (rs : List Rl) (i : Nat) : (numR rs)[i]? = rs[i]?.map fun q => (((i : Nat) : Int), q) := by
  unfold numR
  rw [List.getElem?_map, List.getElem?_zipIdx]
  cases rs[i]? with
  | none => rfl
  | some q =>
    show some (((0 + i : Nat) : Int), q) = some ((i : Int), q)
    rw [Nat.zero_add]
theorem brokN_num (st : List Int) (rs : List Rl) : brokN st (numR rs) = brok st rs := by
  unfold brokN brok numR
  rw [List.filter_map, List.map_map]
  induction rs.zipIdx with
  | nil => rfl
  | cons p ps ih =>
    rw [List.filterMap_cons, List.filter_cons]
    show List.map _ (if (!kept st p.1) = true then _ else _) = _
    cases kept st p.1 with
    | true => exact ih
    | false =>
      show _ :: _ = _ :: _
      congr 1
theorem rl_fit {tops : List Int} {q : Rl} (h : RuleOk tops q) : q.1.1 < tops.length ∧ q.2.1 < tops.length := by
  obtain ⟨⟨t, e, _⟩, ⟨u, f, _⟩⟩ := h
  exact ⟨(List.getElem?_eq_some_iff.mp e).1, (List.getElem?_eq_some_iff.mp f).1⟩
theorem nb_num {H H2 : Hp} {as Us : List Addr} {rs : List Rl} (la : as.length = rs.length) (ha : ∀ (i : Nat) (r : Addr) (q : Rl), as[i]? = some r → rs[i]? = some q → RuleAt H r q) (sm : Same H H2) (lU : Us.length = as.length) (hU : ∀ (j : Nat) T, Us[j]? = some T → ∃ x, (as.map V.ref)[j]? = some x ∧ H2 T = some (.tup [.int (j : Nat), x])) : NbAt H2 Us (numR rs) := by
  refine ⟨by rw [numR_len, lU, la], fun i a r h1 h2 => ?_⟩
  rw [numR_get] at h2
  obtain ⟨q, eq, rfl⟩ := Option.map_eq_some_iff.mp h2
  obtain ⟨x, ex, e⟩ := hU i a h1
  obtain ⟨p, ep, rfl⟩ := mapGet ex
  exact ⟨p, e, (ha i p q ep eq).tk (tk_same sm)⟩
section
variable {P : Program} {w : World} {K : PySem.W.Frag} {mg : Str → Option Value} {base : Heap}
def spHaInit (CH CS C CP CNP CN CB : Addr) : Sp := fun vs H Q E => ∃ (x dx n : Addr) (v1 v2 : V) (d : PyData), vs = [.ref x, v1, v2] ∧ H x = some (.ins CH dx []) ∧ Da n H v2 d ∧
  ((∃ d1, Da n H v1 d1 ∧ ∀ H' dd, Same H H' → H' dd = some (.xd [("field", .str "plan")]) → E (.ref CNP) (some dd) H') ∨
   (∃ (xp : Addr) (tops : List Int) (rs : List Rl), v1 = .ref xp ∧ PlanAt CP H xp tops rs ∧ tops.length ≤ 12 ∧ rs.length ≤ 40 ∧ (∀ q ∈ rs, RuleOk tops q) ∧
    (standingD tops d = false → ∀ H' dd, Same H H' → H' dd = some (.xd [("thing", v2)]) → E (.ref CN) (some dd) H') ∧
    (standingD tops d = true → brok (numsD d) rs ≠ [] → ∀ H' dd q, Same H H' → H' dd = some (.xd [("rules", .ref q)]) → H' q = some (.tup ((brok (numsD d) rs).map V.int)) → E (.ref CB) (some dd) H') ∧
    (standingD tops d = true → brok (numsD d) rs = [] → ∀ H' s p own, (∀ b o, b ≠ x → H b = some o → H' b = some o) → HallAt CH CS C H' x s p own (firstS tops (numsD d) rs) → H' p = some (.tup []) → (∀ b ∈ own, H b = none) → Q .non H')))
abbrev a_Hall___init__ : Stmt := inClass (topS 56) 0
abbrev n_Hall___init__ : List Str := ["self", "plan", "standing"]
theorem sc_Hall___init__ : FnScope n_Hall___init__ ["self", "plan", "standing"] (defScope a_Hall___init__) := ⟨rfl, rfl, rfl, by decide +kernel, rfl, by decide +kernel, by decide +kernel⟩
set_option maxHeartbeats 8000000 in
theorem ok_Hall___init__ {f fCk fFs : Addr} {fd fdCk fdFs : FuncData} {k : Nat} {CH CS C CP CNP CN CB fP : Addr} {fdP : FuncData} (F : Fun K "__init__" "Hall.__init__" a_Hall___init__ f fd) (Ck : KnX P w K mg base 4 "check_standing" ["plan", "numbered", "thing"] (spChk CP CN CB) fCk fdCk) (Fs : Kn P w K mg base 5 "first_state" ["plan", "standing"] (spFirst CS C CP) fFs fdFs) (XH : HallTxt K CH) (TX : PlanTxt K mg CP) (PI : PlanIs K CP) (TP : ExT K mg "NoPlan" "field" CNP fP fdP) (GP : FnOk P w K mg base CX0 1 fP fdP ["self", "field"] (spXI CNP "field")) (m_enumerate : mg "enumerate" = none) (m_isinstance : mg "isinstance" = none) (m_tuple : mg "tuple" = none) : FnOk P w K mg base (L2.CX P w) (k + 6) f fd ["self", "plan", "standing"] (spHaInit CH CS C CP CNP CN CB) := by
  refine F.okX sc_Hall___init__ (fun vs H Q E h => ?_) (fun cdv A outer s H vs Q E hr h => ?_)
  · obtain ⟨x, dx, n, v1, v2, d, rfl, _⟩ := h
    rfl
  · obtain ⟨x, dx, n, v1, v2, d, rfl, ex, hd, alt⟩ := h
    refine ⟨_, (pss_cons (ps_if (pt_not (pt_val (pe_callB call_isi (by rfl) m_isinstance (by decide +kernel) (pa_cons (pv 1) (pa_cons (pe_glob (v := .ref CP) rfl TX.mgC rfl) pa_nil))))) (pss_one (ps_raise rfl (takes_of rfl rfl rfl rfl) (pmk_x TP GP hr (by omega) (pa_cons pe_str pa_nil)))) pss_nil)
      (pss_cons (ps_expr (pe_knP Ck hr (by omega) (takes_of rfl rfl rfl rfl) (pa_cons (pv 1) (pa_cons (pe_tupEn rfl (by rfl) m_tuple (by rfl) m_enumerate (pa_cons (pe_fld (pv 1) rfl) pa_nil)) (pa_cons (pv 2) pa_nil)))))
      (pss_cons (ps_fld (pv 0) (pe_kn Fs hr (by omega) (pa_cons (pv 1) (pa_cons (pv 2) pa_nil))) rfl)
      (pss_one (ps_fld (pv 0) (pe_tup pa_nil) rfl))))), ?_⟩
    rcases alt with ⟨d1, hd1, qE⟩ | ⟨xp, tops, rs, rfl, hp, l12, l40, rok, e1, e2, q⟩
    · exact ⟨v1, rfl, v1, .ref CP, _, _, false, rfl, .own CP, hd1.ty, PI.no d1, _, rfl, iteT (mkX fun dd nd => qE _ dd (same_new nd) upd_same)⟩
    · obtain ⟨dxp, t, R0, exp, et, as, eR, la, ra⟩ := id hp
      refine ⟨.ref xp, rfl, .ref xp, .ref CP, _, _, true, rfl, .own CP, .base (.ins exp PI.ic.cl PI.ic.ha PI.ic.hn PI.ic.htk PI.ic.hm), PI.ic.me, _, rfl, iteF ?_⟩
      refine ⟨.ref xp, rfl, .ref xp, rfl, xp, CP, dxp, _, _, rfl, exp, TX.cl, TX.nR, look_rulesH t R0, R0, as.map V.ref, rfl, .inl (.inl eR), by rw [List.length_map]; omega, fun H1 g Us s1 ng eg lU hU => ⟨v2, rfl, ?_⟩⟩
      rw [List.length_map] at lU
      have fit : ∀ r ∈ numR rs, r.2.1.1 < tops.length ∧ r.2.2.1 < tops.length := fun r hr => by
        obtain ⟨i, ei⟩ := List.getElem?_of_mem hr
        rw [numR_get] at ei
        obtain ⟨q, eq, rfl⟩ := Option.map_eq_some_iff.mp ei
        exact rl_fit (rok q (List.mem_of_getElem? eq))
      refine ⟨n, xp, g, t, tops, Us, numR rs, v2, d, rfl, ⟨dxp, R0, s1 _ _ exp, s1 _ _ et⟩, l12, eg, nb_num la ra s1 lU hU, by rw [numR_len]; omega, fit, hd.same s1, fun c H2 dd s2 ed => e1 c H2 dd (s1.trans s2) ed, fun c b H2 dd q2 s2 ed eq => ?_, fun c b H2 s2 => ?_⟩
      · rw [brokN_num] at b eq
        exact e2 c b H2 dd q2 (s1.trans s2) ed eq
      · rw [brokN_num] at b
        obtain ⟨tS, rfl, eS, lS, bS⟩ := stand_at hd c
        have s12 := s1.trans s2
        refine ⟨.ref xp, rfl, .ref tS, rfl, xp, tS, tops, numsD d, rs, rfl, hp.keep (.same s12), s12 _ _ eS, by omega, by omega, fun q hq => by rw [lS]; exact rl_fit (rok q hq), fun H3 s own s3 fr hx => ?_⟩
        have s13 := s12.trans s3
        have ex3 := s13 _ _ ex
        refine ⟨.ref x, rfl, x, CH, dx, _, rfl, ex3, XH.cl, XH.n1, (show 0 < 1000 by decide), ?_⟩
        have fr0 : ∀ b ∈ own, H b = none := fun b hb => s12.free (fr b hb)
        have nx : ∀ b ∈ own, b ∉ [x] := fun b hb hz => by
          rw [List.mem_singleton.mp hz] at hb
          rw [fr0 x hb] at ex
          cases ex
        have b4 : ButL [x] H3 (upd H3 x (.ins CH dx (putF "now" (.ref s) []))) := fun b o nb e => (upd_ne (fun z => nb (by rw [z]; exact List.mem_singleton.mpr rfl))).trans e
        have t4 : TupK H3 (upd H3 x (.ins CH dx (putF "now" (.ref s) []))) := fun b xs e => (upd_ne (fun w => by rw [w, ex3] at e; cases e)).trans e
        have e4 : (upd H3 x (.ins CH dx (putF "now" (.ref s) []))) x = some (.ins CH dx (putF "now" (.ref s) [])) := upd_same
        have hx4 := hx.farL b4 t4 nx
        generalize upd H3 x (.ins CH dx (putF "now" (.ref s) [])) = H4 at b4 t4 e4 hx4 ⊢
        refine ⟨(show 0 ≤ sizeLine by decide), fun p np => ?_⟩
        have s5 := same_new (o := HO.tup []) np
        have e5 : (upd H4 p (HO.tup [])) p = some (.tup []) := upd_same
        have ex5 := s5 _ _ e4
        have hx5 := hx4.same s5
        generalize upd H4 p (HO.tup []) = H5 at s5 e5 ex5 hx5 ⊢
        refine ⟨.ref x, rfl, x, CH, dx, _, rfl, ex5, XH.cl, XH.n2, (show 1 < 1000 by decide), ?_⟩
        rw [hp12]
        have b6 : ButL [x] H5 (upd H5 x (.ins CH dx (haF (.ref s) (.ref p)))) := fun b o nb e => (upd_ne (fun z => nb (by rw [z]; exact List.mem_singleton.mpr rfl))).trans e
        have t6 : TupK H5 (upd H5 x (.ins CH dx (haF (.ref s) (.ref p)))) := fun b xs e => (upd_ne (fun w => by rw [w, ex5] at e; cases e)).trans e
        have bb : ∀ b o, b ≠ x → H b = some o → (upd H5 x (.ins CH dx (haF (.ref s) (.ref p)))) b = some o := fun b o nb e => (b6 b o (fun z => nb (List.mem_singleton.mp z)) (s5 _ _ (b4 b o (fun z => nb (List.mem_singleton.mp z)) (s13 _ _ e))))
        exact q c b _ s p own bb ⟨dx, upd_same, hx5.farL b6 t6 nx⟩ (t6 _ _ e5) fr0
end
end K66

set_option Elab.async false
set_option linter.all false
set_option maxRecDepth 100000
set_option maxHeartbeats 1000000
/-! What a plain search wants: sorted of any number of tuples, dicts whose keys are tuples. -/
namespace SrtO
open PySem PyProof.Rows Srt
section
variable {prog : Program} {w : World} {A : Around} {E : Value → Shared → Prop} {s : Shared}
def rkT (h : Heap) (B : Int) (v : Value) : Int := TS.code B (TS.intsOf h v)
theorem swo_rk (r : Value → Int) : Swo fun v u => decide (r v < r u) := by
  refine ⟨fun x y h => ?_, fun x y z h1 h2 => ?_⟩
  · have a := of_decide_eq_true h
    exact decide_eq_false (by omega)
  · have a := of_decide_eq_false h1
    have b := of_decide_eq_false h2
    exact decide_eq_false (by omega)
theorem tups_cmp {d : Nat} {B : Int} {vs : List Value} {r : Value → Int} (x : TS.TupsOk s.heap d B vs) (hr : ∀ v, v ∈ vs → ∀ ns, TS.TupInts s.heap v ns → r v = TS.code B ns) : Cmp prog w A s (tuples' true) (fun p => p.1 ∈ vs) (lt2 fun v u => decide (r v < r u)) := by
  intro p q hp hq
  obtain ⟨ns, tp, lp, bp⟩ := x _ hp
  obtain ⟨ms, tq, lq, bq⟩ := x _ hq
  have ep := hr _ hp _ tp
  have eq2 := hr _ hq _ tq
  show wpAny (model prog w) A (keyLt' (tuples' true) p.1 q.1) (fun b s' => s' = s ∧ b = decide (r p.1 < r q.1)) (fun _ _ => False) s
  rw [ep, eq2]
  obtain ⟨a, xs, e1, ⟨o, ho, hc, n, hdt⟩, i⟩ := tp
  obtain ⟨a', ys, e2, ⟨o', ho', hc', n', hdt'⟩, i'⟩ := tq
  rw [e1, e2]
  refine PySem.W.kat_lt ho hdt ho' hdt' ?_
  have sz : decide (xs.size < ys.size) = false := by
    have l1 := i.length
    have l2 := i'.length
    rw [Array.length_toList] at l1 l2
    exact decide_eq_false (by omega)
  rw [sz]
  exact TS.lex_ints 0 i i' (by omega) bp bq ⟨rfl, rfl⟩
theorem tups_sortableO {a : Addr} {vs : List Value} {d : Nat} {B : Int} {r : Value → Int} (hd1 : 1 ≤ d) (h2 : 2 ≤ vs.length) (x : TS.TupsOk s.heap d B vs) (hr : ∀ v, v ∈ vs → ∀ ns, TS.TupInts s.heap v ns → r v = TS.code B ns) (ha : ∀ o, s.heap.get? a = some o → o.cls ≠ .type "tuple") :
    SortableO prog w A s a vs fun v u => decide (r v < r u) := by
  intro h' keep
  have kp : ∀ b o, s.heap.get? b = some o → o.cls = .type "tuple" → h'.get? b = some o := fun b o e c => keep b o (fun z => by subst z; exact ha o e c) e
  have x' : TS.TupsOk h' d B vs := x.keeps kp
  obtain ⟨fs, h1, hl, h3⟩ := TS.firsts_of hd1 vs x'
  refine ⟨tuples' true, fun Q E hq => ?_, tups_cmp (s := { s with heap := h' }) x' fun v hv ns t => ?_⟩
  · refine PySem.W.kat_kind (T := .type "int") h1 (by omega) (fun f hm => ?_) (by rfl) ?_
    · obtain ⟨n, t, rfl⟩ := h3 f hm
      exact PySem.W.Looks.of_pure rfl
    · have e : (Value.type "int" != Value.type "tuple") = true := by first | decide +kernel | rfl | decide
      rw [e]
      exact hq
  · obtain ⟨ns0, t0, _⟩ := x v hv
    have e : ns = ns0 := t.ints.symm.trans (t0.keeps kp).ints
    rw [e]
    exact hr v hv ns0 t0
end
end SrtO

namespace NB
open PySem PySem.Spec PyProof.Rows L2
/-- sorted(xs), xs a list of tuples of d whole numbers each: a new list of the same ones -/
def rSortTT (K : PySem.W.Frag) (d : Nat) (B : Int) : List V → Hp → VK → Prop := fun vs H Q => ∃ (a : Addr) (L : List (Addr × List Int)), vs = [V.ref a] ∧ SqL K H a (L.map fun z => V.ref z.1) ∧ (∀ z ∈ L, H z.1 = some (.tup (z.2.map V.int)) ∧ z.2.length = d ∧ TS.Bd B z.2) ∧
  ∀ (ys : List V) (p : Addr), ys.Perm (L.map fun z => V.ref z.1) → H p = none → Q (.ref p) (upd H p (.lst ys))
section
variable {X : Cx}
theorem cr_sortTT {d : Nat} {B : Int} (hd1 : 1 ≤ d) : CallR X (.builtin "sorted") (rSortTT X.K d B) := by
  intro pins s σ H vs us Q I r h
  obtain ⟨a, L, rfl, hs, hx, q⟩ := h
  obtain ⟨its, rv, hl, hz⟩ := I.list hs
  obtain ⟨u, rfl, ru⟩ := vals1 r
  obtain rfl : u = Value.ref a := ru
  obtain ⟨e1, e2⟩ := refs_back rv fun x m => by
    obtain ⟨z, _, e⟩ := List.mem_map.mp m
    exact ⟨z.1, e.symm⟩
  have ok : TS.TupsOk s.heap d B its := fun v hv => by
    obtain ⟨t, rfl⟩ := e2 v hv
    have hm : V.ref t ∈ L.map fun z => V.ref z.1 := by rw [e1]; exact List.mem_map.mpr ⟨_, hv, rfl⟩
    obtain ⟨z, hz, e⟩ := List.mem_map.mp hm
    obtain ⟨ht, hn, hb⟩ := hx z hz
    have e' : z.1 = t := V.ref.inj e
    subst e'
    obtain ⟨its2, r2, p2, _⟩ := I.tuple (.inl (.inl ht))
    exact ⟨z.2, ⟨z.1, _, rfl, p2, by simpa using r2.ints⟩, hn, hb⟩
  refine SrtO.sorted_ord (SrtO.swo_rk fun v => TS.code B (TS.intsOf s.heap v)) hl.isList (by rw [← rv.length]; exact hz) (fun h2 h₁ a' ha' kk => ?_) fun out h1 h2 => ?_
  · have kp : ∀ b o, s.heap.get? b = some o → o.cls = .type "tuple" → h₁.get? b = some o := fun b o e _ => (kk b o e).2
    refine SrtO.tups_sortableO (s := { s with heap := h₁ }) hd1 h2 (ok.keeps kp) (fun v hv ns t => ?_) fun o e => ?_
    · obtain ⟨ns0, t0, _⟩ := ok v hv
      have e : ns = ns0 := t.ints.symm.trans (t0.keeps kp).ints
      rw [e, t0.ints]
    · have e' : some o = some (seqObj "list" its.toArray 0) := e.symm.trans ha'
      cases e'
      intro c
      exact absurd (Value.type.inj c) (by decide)
  · have h3 : ∀ u ∈ out, ∃ a, u = Value.ref a := fun u hu => e2 u (h2.perm.mem_iff.mp hu)
    obtain ⟨ep, he'⟩ := PyProof.Rows.sortedAll_at s.heap its out.toArray
    have hp : (out.map backV).Perm (L.map fun z => V.ref z.1) := by
      rw [e1]
      exact h2.perm.map backV
    refine ⟨.ref _, upd H (s.heap.objs.size + 1) (.lst (out.map backV)), I.laid (t' := s.toks) (fun _ _ => PyProof.Rows.sortedAll_old) (Nat.le_succ _) ⟨?_, out, ep, vals_back h3, he'⟩, rfl, q _ _ hp (I.hok.fresh (Nat.le_succ _))⟩
    rw [hp.length_eq]
    exact hz
/-- a dict made of pairs, each key a tuple -/
def putAll (ms : List (List Key × V)) : List (List Key × V) := ms.foldl (fun acc kv => putK acc kv.1 kv.2) []
theorem KT.putAll {H : Hp} {ms : List (List Key × V)} {ps : List (List Key × Addr × Value)} (r : Paired (fun m p => m.1 = p.1 ∧ H p.2.1 = some (.tup (p.1.map kV)) ∧ L2.RelV m.2 p.2.2) ms ps) : ∀ {acc : List (List Key × V)} {xs : List (List Key × Addr × Value)}, KT H acc xs →
    KT H (ms.foldl (fun acc kv => putK acc kv.1 kv.2) acc) (storedAllH xs ps) := by
  induction r with
  | nil => exact fun h => h
  | @cons m p ms ps h t ih =>
    intro acc xs hk
    have e : KT H (putK acc m.1 m.2) (storedH xs p.1 p.2.1 p.2.2) := by
      rw [h.1]
      exact hk.put p.1 h.2.1 h.2.2
    exact ih e
theorem putAll_len : ∀ (ms acc : List (List Key × V)), (ms.foldl (fun acc kv => putK acc kv.1 kv.2) acc).length ≤ acc.length + ms.length
  | [], acc => by simp
  | m :: ms, acc => by
    have h1 := putAll_len ms (putK acc m.1 m.2)
    have h2 := length_putK acc m.1 m.2
    rw [List.foldl_cons, List.length_cons]
    omega
/-- dict(xs), xs a list of pairs (tuple, value) -/
theorem call_dictT (hcalm : X.calm = true) (hu : X.A.units + 8 < cLine) : CallR X (.type "dict") (fun xs H Q => ∃ (a : Addr) (L : List (Addr × Addr × List Key × V)), xs = [.ref a] ∧ H a = some (.lst (L.map fun z => V.ref z.1)) ∧ (∀ z ∈ L, H z.1 = some (.tup [.ref z.2.1, z.2.2.2]) ∧ H z.2.1 = some (.tup (z.2.2.1.map kV))) ∧
    ∀ p, H p = none → Q (.ref p) (upd H p (.dT (putAll (L.map fun z => (z.2.2.1, z.2.2.2)))))) := by
  intro pins s σ H xs us Q I r q
  obtain ⟨a, L, ex, hq, hp, q⟩ := q
  subst ex
  obtain ⟨u, eu, rx⟩ := vals1 r
  subst eu
  cases rx
  obtain ⟨its, rv, pl, hz⟩ := I.list (.inl (.inl hq))
  have ei : its = L.map fun z => Value.ref z.1 := by
    have e : (L.map fun z => V.ref z.1) = (L.map (·.1)).map V.ref := by rw [List.map_map]; rfl
    rw [e] at rv
    rw [refs_at rv, List.map_map]
    rfl
  subst ei
  rw [List.length_map] at hz
  -- the pairs as they stand in the machine
  have mk : ∀ (M : List (Addr × Addr × List Key × V)), (∀ z ∈ M, z ∈ L) → ∃ ps : List (List Key × Addr × Value), Paired (fun m p => m.1 = p.1 ∧ H p.2.1 = some (.tup (p.1.map kV)) ∧ RelV m.2 p.2.2) (M.map fun z => (z.2.2.1, z.2.2.2)) ps ∧ ps.length = M.length ∧
      ∀ (j : Nat) (p : List Key × Addr × Value), ps[j]? = some p → ∃ z, M[j]? = some z ∧ p.1 = z.2.2.1 ∧ p.2.1 = z.2.1 ∧ IsTup s.heap z.1 #[.ref p.2.1, p.2.2] := by
    intro M
    induction M with
    | nil => exact fun _ => ⟨[], .nil, rfl, fun j p e => by simp at e⟩
    | cons z M ih =>
      intro hM
      obtain ⟨ps, h1, h2, h3⟩ := ih fun y hy => hM y (List.mem_cons_of_mem _ hy)
      obtain ⟨hz1, hz2⟩ := hp z (hM z List.mem_cons_self)
      obtain ⟨its2, r2, p2, _⟩ := I.tuple (.inl (.inl hz1))
      obtain ⟨u1, u2, rfl, ra, rb⟩ := vals2 r2
      obtain rfl : u1 = Value.ref z.2.1 := ra
      refine ⟨(z.2.2.1, z.2.1, u2) :: ps, .cons ⟨rfl, hz2, rb⟩ h1, by rw [List.length_cons, List.length_cons, h2], fun j p e => ?_⟩
      cases j with
      | zero =>
        have e' : (z.2.2.1, z.2.1, u2) = p := Option.some.inj e
        subst e'
        exact ⟨z, rfl, rfl, rfl, p2⟩
      | succ j => exact h3 j p (by simpa using e)
  obtain ⟨ps, rel, hl, hps⟩ := mk L fun z hz => hz
  obtain ⟨o, n, ho, hc, hd, hdat⟩ := pl
  have items : PairItems s.heap (L.map fun z => Value.ref z.1).toArray (fun j => (L.getD j (0, 0, [], .non)).1) (ps.map fun p => (Value.ref p.2.1, p.2.2)) := by
    refine ⟨by simp [hl], fun j k v e => ?_⟩
    rw [List.getElem?_map] at e
    cases ej : ps[j]? with
    | none => rw [ej] at e; cases e
    | some p =>
      rw [ej] at e
      have e' : (Value.ref p.2.1, p.2.2) = (k, v) := Option.some.inj e
      cases e'
      obtain ⟨z, hz1, _, _, hz4⟩ := hps j p ej
      have eg : L.getD j (0, 0, [], .non) = z := by rw [List.getD_eq_getElem?_getD, hz1]; rfl
      refine ⟨by simp [hz1, eg], .inl ?_⟩
      show s.heap.IsTuple (L.getD j (0, 0, [], .non)).1 _
      rw [eg]
      exact hz4
  have hst : KeysStay (tupleKind (mixKind X.prog X.w)) s.heap s.heap.objs.size [] ps := fun h' hk x hx => by
    obtain ⟨j, hj, e⟩ := List.getElem_of_mem hx
    obtain ⟨z, hz1, e1, e2, _⟩ := hps j x (by rw [List.getElem?_eq_getElem hj, e])
    have hz2 := (hp z (List.mem_of_getElem? hz1)).2
    rw [e1, e2]
    obtain ⟨_, its3, r3, o3, q1, q2, n3, q3⟩ := (show ObjOk X.prog X.w H s.heap z.2.1 (.tup (z.2.2.1.map kV)) from I.hok _ _ hz2)
    exact ⟨o3, its3.toArray, n3, hk _ _ (Nat.ne_of_lt (Heap.lt_size q1)) (by simp) q1, q2, q3, by simpa using items_are r3⟩
  refine PySem.call_dict_pairsH (knd := tupleKind (mixKind X.prog X.w)) (ps := ps) (PairArg.list a _ _ (ps.map fun p => (Value.ref p.2.1, p.2.2))) (I.ok.hd hcalm) (tupleKind_room_in1 (A := X.A.in1) (by show X.A.units + 1 + 1 < cLine; omega)) ⟨⟨o, n, ho, hc, hd, hdat⟩, items⟩ ⟨by rw [List.length_map], fun i key v e => ?_⟩ hst (by rw [List.length_map, hl]; exact hz) fun h' tk hd' k => ?_
  · have e' : (ps.map fun p => (Value.ref p.2.1, p.2.2))[i]? = some (key, v) := e
    rw [List.getElem?_map] at e'
    cases ej : ps[i]? with
    | none => rw [ej] at e'; cases e'
    | some p =>
      rw [ej] at e'
      have e2 : (Value.ref p.2.1, p.2.2) = (key, v) := Option.some.inj e'
      cases e2
      exact ⟨p.1, p.2.1, rfl, rfl⟩
  · have hm : (s.heap.objs.size == sysModules) = false := beq_eq_false_iff_ne.mpr (Nat.ne_of_gt I.big)
    have hlen : (putAll (L.map fun z => (z.2.2.1, z.2.2.2))).length ≤ sizeLine := by
      have := putAll_len (L.map fun z => (z.2.2.1, z.2.2.2)) []
      rw [List.length_nil, List.length_map] at this
      unfold putAll
      omega
    have nw := I.hok.fresh (Nat.le_refl s.heap.objs.size)
    have kt : KT (upd H s.heap.objs.size (.dT (putAll (L.map fun z => (z.2.2.1, z.2.2.2))))) (putAll (L.map fun z => (z.2.2.1, z.2.2.2))) (storedAllH [] ps) := (KT.putAll (acc := []) (xs := []) rel .nil).keeps fun b ys e => by
      rw [upd_ne (ne_of_none e nw)]
      exact e
    obtain ⟨q', es, ep, g1, g2, g3, g4, _, g5⟩ := hd'
    exact ⟨.ref s.heap.objs.size, upd H s.heap.objs.size (.dT (putAll (L.map fun z => (z.2.2.1, z.2.2.2)))), I.laid (t' := tk) (fun b o e => k b o (by simp) e) (Nat.le_refl _) (show ObjOk X.prog X.w _ _ _ (.dT (putAll (L.map fun z => (z.2.2.1, z.2.2.2)))) from ⟨hlen, hm, _, kt, q', es, ep, g1, g2, g3, g4, g5⟩), rfl, q _ nw⟩
/-- {t: v}, t a tuple -/
def tDispT (tk tv : TE) : TE := fun σ H Q => ∀ p, H p = none → tk σ (upd H p (.dT [])) fun x H1 => tv σ H1 fun y H2 => ∃ (b : Addr) (k : List Key), x = .ref b ∧ H2 b = some (.tup (k.map kV)) ∧ H2 p = some (.dT []) ∧ Q (.ref p) (upd H2 p (.dT [(k, y)]))
theorem pe_dispT {pos : Pos} {ke ve : Expr} {tk tv : TE} (hk : PE X ke tk) (hv : PE X ve tv) (hu : X.A.units + 8 < cLine) : PE X (.Dict [some ke] [ve] pos) (tDispT tk tv) := by
  refine ⟨fun pins s σ H Q I q => ?_⟩
  have hn := I.hok.fresh (Nat.le_refl s.heap.objs.size)
  have hsys : (s.heap.objs.size == sysModules) = false := beq_eq_false_iff_ne.mpr (Nat.ne_of_gt I.big)
  have I1 := I.laid (a := s.heap.objs.size) (o := .dT []) (h' := s.heap.push { cls := .type "dict", data := .dict #[] }) (t' := s.toks) (fun _ _ q => Heap.get?_push_of_some _ q) (Nat.le_refl _)
    (show ObjOk X.prog X.w _ _ _ (.dT []) from ⟨Nat.zero_le _, hsys, [], .nil, by
      obtain ⟨o, es, ep, g1, g2, g3, g4, _, g5⟩ := (Heap.DictOfH.new (knd := tupleKind (mixKind X.prog X.w)) s.heap)
      exact ⟨o, es, ep, g1, g2, g3, g4, g5⟩⟩)
  refine wpAny_Dict_any (by rfl) (by rfl) (by intro z; cases z) (show 1 ≤ 15 by decide) ?_
  refine pairTrees_cons_walk (thn (hk.run pins _ σ _ _ I1 (q _ hn)) fun u s1 ⟨x, H1, J1, rx, q1⟩ => thn (hv.run pins s1 σ H1 _ J1 q1) fun w2 s2 ⟨y, H2, J2, ry, q2⟩ => pairTrees_nil_walk ?_)
  obtain ⟨b, k, rfl, eb, ep, q3⟩ := q2
  cases rx
  obtain ⟨z, hd, xs, rel, dd⟩ := dt_of J2.hok ep
  cases rel
  refine wpAny_bind (wpAny_bind (wpAny_dictSet_heap (knd := tupleKind (mixKind X.prog X.w)) (hsz := Nat.zero_le _) (show X.A.units < cLine by omega) (key_of J2.hok eb) dd fun h' dd' hs => wpAny_pure ?_))
  refine wpAny_pure ?_
  obtain ⟨q', es, ep', g1, g2, g3, g4, _, g5⟩ := dd'
  refine ⟨.ref s.heap.objs.size, _, d_write (t' := _) J2 (by rw [ep]; exact True.intro) hs ⟨q', g1⟩ (ob := .dT [(k, y)]) ⟨(show 1 ≤ sizeLine by decide), hd, _, .cons ⟨rfl, ?_, ry⟩ .nil, q', es, ep', g1, g2, g3, g4, g5⟩, rfl, q3⟩
  rw [upd_ne (ne_of eb ep (fun z => nomatch z))]
  exact eb
end
end NB

set_option Elab.async false
set_option linter.all false
set_option maxRecDepth 100000
set_option maxHeartbeats 1000000
/-! The inner for of a comprehension with two. -/
namespace NB
open PySem PySem.Spec PyProof.Rows L2
theorem lc_in {J : It} {n : Nat} {G : Hp → Prop} {Y : Nat → Hp → V → Hp → Prop} (w : Walk J n G Y) {g : TG} {tt : TT} {te : TE} {vs : List Nat} {σ : L2.St} {H1 : Hp} {D : Addr} {Nx : Hp → Prop} (Pv : Nat → Hp → Prop) (h0 : Pv 0 H1) (hG : ∀ i H, i ≤ n → Pv i H → G H)
    (hs : ∀ i x H H', i < n → Pv i H → Y i H x H' → g x (wipe σ vs) H' fun σ2 H2 => wipe σ2 vs = wipe σ vs ∧ tt σ2 H2 fun b H3 =>
      if b = true then te σ2 H3 fun y H4 => ∃ acc, H4 D = some (.lst acc) ∧ acc.length < sizeLine ∧ Pv (i + 1) (upd H4 D (.lst (acc ++ [y]))) else Pv (i + 1) H3) (hd : ∀ H, Pv n H → Nx H) :
    ∃ W : Nat → Nat → Hp → Prop, (∃ m, W 0 m H1) ∧ ∀ i m H, W i m H →
      (J.stop i H ∧ Nx H) ∨ (J.go i H ∧ ∃ N1 : Hp → Prop, (∀ H', N1 H' → ∃ m', m' < m ∧ W (i + 1) m' H') ∧ ∀ x H', J.yld i H x H' → g x (wipe σ vs) H' fun σ2 H2 => wipe σ2 vs = wipe σ vs ∧ tt σ2 H2 fun b H3 =>
        if b = true then te σ2 H3 fun y H4 => ∃ acc, H4 D = some (.lst acc) ∧ acc.length < sizeLine ∧ N1 (upd H4 D (.lst (acc ++ [y]))) else N1 H3) := by
  refine ⟨fun i m H => m = n - i ∧ i ≤ n ∧ Pv i H, ⟨n, by simp, Nat.zero_le _, h0⟩, ?_⟩
  rintro i m H ⟨rfl, hi, p⟩
  have q := hG i H hi p
  by_cases hlt : i < n
  · refine .inr ⟨w.goes i H hlt q, Pv (i + 1), fun H' p' => ⟨n - (i + 1), by omega, rfl, hlt, p'⟩, fun x H' y => hs i x H H' hlt p (w.yields i H x H' hlt q y)⟩
  · have e : i = n := by omega
    subst e
    exact .inl ⟨w.stops H q, hd H p⟩
/-- going through it, whatever is done with each -/
theorem lc_out {J : It} {n : Nat} {G : Hp → Prop} {Y : Nat → Hp → V → Hp → Prop} (w : Walk J n G Y) {H0 : Hp} {Qd : Hp → Prop} {B : V → Hp → (Hp → Prop) → Prop} (Pv : Nat → Hp → Prop) (h0 : Pv 0 H0) (hG : ∀ i H, i ≤ n → Pv i H → G H)
    (hs : ∀ i x H H', i < n → Pv i H → Y i H x H' → B x H' (Pv (i + 1))) (hd : ∀ H, Pv n H → Qd H) :
    ∃ W : Nat → Nat → Hp → Prop, (∃ m, W 0 m H0) ∧ ∀ i m H, W i m H →
      (J.stop i H ∧ Qd H) ∨ (J.go i H ∧ ∃ Nx : Hp → Prop, (∀ H', Nx H' → ∃ m', m' < m ∧ W (i + 1) m' H') ∧ ∀ x H', J.yld i H x H' → B x H' Nx) := by
  refine ⟨fun i m H => m = n - i ∧ i ≤ n ∧ Pv i H, ⟨n, by simp, Nat.zero_le _, h0⟩, ?_⟩
  rintro i m H ⟨rfl, hi, p⟩
  have q := hG i H hi p
  by_cases hlt : i < n
  · refine .inr ⟨w.goes i H hlt q, Pv (i + 1), fun H' p' => ⟨n - (i + 1), by omega, rfl, hlt, p'⟩, fun x H' y => hs i x H H' hlt p (w.yields i H x H' hlt q y)⟩
  · have e : i = n := by omega
    subst e
    exact .inl ⟨w.stops H q, hd H p⟩
end NB

set_option Elab.async false
set_option linter.all false
set_option maxRecDepth 100000
namespace K66
open PySem PySem.Spec PyProof.Rows L2 NB

/-! ### what a hall tells -/
def hrdV (h : Hd) : V := match h.wish with
  | none => .non
  | some w => .int w.1
def lvV (q : Rl) (a b : Int) : V := if a = b then .int (if a % 2 = 0 then (q.1.1 : Int) else (q.2.1 : Int)) else .non
def ctRow (r : Int × Rl × Int × Int) : List V := [.int r.1, .int (if r.2.2.2 > r.2.2.1 then r.2.2.2 else r.2.2.1)]
def lvRow (r : Int × Rl × Int × Int) : List V := [.int r.1, lvV r.2.1 r.2.2.1 r.2.2.2]
/-- tuples that hold these -/
def PrsAt (H : Hp) (as : List Addr) (rows : List (List V)) : Prop := as.length = rows.length ∧ ∀ (i : Nat) a r, as[i]? = some a → rows[i]? = some r → H a = some (.tup r)
theorem PrsAt.tk {H H' : Hp} {as : List Addr} {rows : List (List V)} (a : PrsAt H as rows) (k : TupK H H') : PrsAt H' as rows := ⟨a.1, fun i z r h1 h2 => k _ _ (a.2 i z r h1 h2)⟩
theorem PrsAt.nil {H : Hp} : PrsAt H [] [] := ⟨rfl, fun i a r h => by rw [List.getElem?_nil] at h; cases h⟩
theorem PrsAt.snoc {H : Hp} {as : List Addr} {rows : List (List V)} {a : Addr} {r : List V} (h : PrsAt H as rows) (e : H a = some (.tup r)) : PrsAt H (as ++ [a]) (rows ++ [r]) := by
  have l := h.1
  refine ⟨by rw [List.length_append, List.length_append, l]; rfl, fun i z r' h1 h2 => ?_⟩
  rcases Nat.lt_or_ge i as.length with c | c
  · rw [List.getElem?_append_left c] at h1
    rw [List.getElem?_append_left (by omega)] at h2
    exact h.2 i z r' h1 h2
  · have hl := (List.getElem?_eq_some_iff.mp h1).1
    rw [List.length_append, List.length_singleton] at hl
    have i0 : i = as.length := by omega
    rw [i0, List.getElem?_append_right (Nat.le_refl _), Nat.sub_self] at h1
    rw [i0, l, List.getElem?_append_right (Nat.le_refl _), Nat.sub_self] at h2
    cases h1
    cases h2
    exact e
def spLvH : Sp := fun vs H Q _ => ∃ (r : Addr) (q : Rl) (a b : Int), vs = [.ref r, .int a, .int b] ∧ RuleAt H r q ∧ Q (lvV q a b) H
def HaIn (CH CS C : Addr) (vs : List V) (H : Hp) (p : Addr) (σ : Sta) : Prop := ∃ (x s : Addr) (own : List Addr), vs = [.ref x] ∧ HallAt CH CS C H x s p own σ
def spHaLen (CH CS C : Addr) : Sp := fun vs H Q _ => ∃ (x s p : Addr) (own : List Addr) (σ : Sta) (ps : List V), vs = [.ref x] ∧ HallAt CH CS C H x s p own σ ∧ H p = some (.tup ps) ∧ Q (.int ps.length) H
def spHaNum (CH CS C : Addr) : Sp := fun vs H Q _ => ∃ (x s p : Addr) (own : List Addr) (σ : Sta), vs = [.ref x] ∧ HallAt CH CS C H x s p own σ ∧ Rsg σ ∧ ∀ H' g as, Same H H' → H' g = some (.tup (as.map V.ref)) → NbAt H' as σ.rules → Q (.ref g) H'
def spHaSt (CH CS C : Addr) : Sp := fun vs H Q _ => ∃ (x s p : Addr) (own : List Addr) (σ : Sta), vs = [.ref x] ∧ HallAt CH CS C H x s p own σ ∧ σ.hands.length ≤ 12 ∧ ∀ H' g, Same H H' → H' g = some (.tup ((plsOf σ).map V.int)) → Q (.ref g) H'
def spHaHd (CH CS C : Addr) : Sp := fun vs H Q _ => ∃ (x s p : Addr) (own : List Addr) (σ : Sta), vs = [.ref x] ∧ HallAt CH CS C H x s p own σ ∧ σ.hands.length ≤ 12 ∧ ∀ H' g, Same H H' → H' g = some (.tup (σ.hands.map hrdV)) → Q (.ref g) H'
def ShOk (σ : Sta) : Prop := Rsg σ ∧ ∀ r ∈ σ.rules, shrd r.2 = true → Holds σ r.2.1.1 r ∧ Holds σ r.2.2.1 r
def spHaCt (CH CS C : Addr) : Sp := fun vs H Q _ => ∃ (x s p : Addr) (own : List Addr) (σ : Sta), vs = [.ref x] ∧ HallAt CH CS C H x s p own σ ∧ ShOk σ ∧ ∀ H' g as, Same H H' → H' g = some (.tup (as.map V.ref)) → PrsAt H' as ((shCs σ σ.rules).map ctRow) → Q (.ref g) H'
def spHaLv (CH CS C : Addr) : Sp := fun vs H Q _ => ∃ (x s p : Addr) (own : List Addr) (σ : Sta), vs = [.ref x] ∧ HallAt CH CS C H x s p own σ ∧ ShOk σ ∧ ∀ H' g as, Same H H' → H' g = some (.tup (as.map V.ref)) → PrsAt H' as ((shCs σ σ.rules).map lvRow) → Q (.ref g) H'
def spHaLt (CH CS C : Addr) : Sp := fun vs H Q _ => ∃ (x s p : Addr) (own : List Addr) (σ : Sta), vs = [.ref x] ∧ HallAt CH CS C H x s p own σ ∧ ∀ H' g as, Same H H' → H' g = some (.tup (as.map V.ref)) → LwAt H' as σ.letters → Q (.ref g) H'
def spHaGn (CH CS C : Addr) : Sp := fun vs H Q _ => ∃ (x s p : Addr) (own : List Addr) (σ : Sta), vs = [.ref x] ∧ HallAt CH CS C H x s p own σ ∧ Q (.int σ.ag) H
/-- what each hand lacks, one hand behind another -/
inductive LksL : List Hd → List (Nat × Int) → Prop
  | nil : LksL [] []
  | snoc {hs : List Hd} {rs : List (Nat × Int)} {h : Hd} {ys : List Int} : LksL hs rs → LkL h ys → LksL (hs ++ [h]) (rs ++ ys.map fun y => (h.thing, y))
theorem lk_len {h : Hd} {ys : List Int} (l : LkL h ys) : ys.length ≤ h.rows.length := by
  rcases l with ⟨_, rfl⟩ | ⟨_, ss, ⟨zs, pm, _, rfl⟩, rfl⟩
  · exact Nat.zero_le _
  · have := pm.length_eq
    rw [List.length_map] at this
    rw [← this]
    exact Nat.le_trans (List.length_filter_le _ _) (Nat.le_trans (List.length_filter_le _ _) (List.length_filter_le _ _))
def lkRow (r : Nat × Int) : List V := [.int (r.1 : Int), .int r.2]
def spHaWt (CH CS C : Addr) : Sp := fun vs H Q _ => ∃ (x s p : Addr) (own : List Addr) (σ : Sta), vs = [.ref x] ∧ HallAt CH CS C H x s p own σ ∧ σ.hands.length ≤ 12 ∧ (∀ h ∈ σ.hands, h.rows.length ≤ 40 ∧ ∀ w, h.wish = some w → h.thing < w.2.length) ∧
  ∀ H' g as rs, Same H H' → H' g = some (.tup (as.map V.ref)) → LksL σ.hands rs → PrsAt H' as (rs.map lkRow) → Q (.ref g) H'
section
variable {P : Program} {w : World} {K : PySem.W.Frag} {mg : Str → Option Value} {base : Heap}
abbrev a_leave_holder : Stmt := topS 55
abbrev n_leave_holder : List Str := ["rule", "first", "second"]
theorem sc_leave_holder : FnScope n_leave_holder ["rule", "first", "second"] (defScope a_leave_holder) := ⟨rfl, rfl, rfl, by decide +kernel, rfl, by decide +kernel, by decide +kernel⟩
set_option maxHeartbeats 8000000 in
theorem ok_leave_holder {f  : Addr} {fd  : FuncData} {k : Nat}  (F : Fun K "leave_holder" "leave_holder" a_leave_holder f fd)    : FnOk P w K mg base CX0 (k + 1) f fd ["rule", "first", "second"] spLvH := by
  refine F.ok sc_leave_holder (fun vs H Q E h => ?_) (fun cdv A outer s H vs Q E hr h => ?_)
  · obtain ⟨r, q, a, b, rfl, _⟩ := h
    rfl
  · obtain ⟨r, q, a, b, rfl, hr0, qq⟩ := h
    refine ⟨_, (pss_cons (ps_if (pt_cmpR op_ne (pv 1) (pv 2) (nomark _)) (pss_one (ps_ret pe_non)) pss_nil)
      (pss_one (ps_ret (pe_ix ix_tup (pe_ix ix_tup (pv 0) (pe_op op_mod (pv 1) pe_int) (fun _ _ => rfl)) pe_int (fun _ _ => rfl))))), ?_⟩
    obtain ⟨p1, p2, e3, h1, h2⟩ := hr0
    have g1 : H p1 = some (.tup [.int (q.1.1 : Int), .str (word q.1.2.1), .int q.1.2.2]) := h1
    have g2 : H p2 = some (.tup [.int (q.2.1 : Int), .str (word q.2.2.1), .int q.2.2.2]) := h2
    refine ⟨.int a, rfl, .int b, rfl, rfl, _, rfl, ?_⟩
    unfold lvV at qq
    by_cases z : a = b
    · rw [if_pos z] at qq
      have n0 : (!decide (V.int a = V.int b)) = false := by rw [z]; simp
      rw [n0]
      refine iteF ⟨.ref r, rfl, .int a, rfl, a, 2, rfl, rfl, (show (0 : Int) < 2 by decide), ?_⟩
      have m0 := Int.emod_nonneg a (show (2 : Int) ≠ 0 by decide)
      have m1 := Int.emod_lt_of_pos a (show (0 : Int) < 2 by decide)
      by_cases c : a % 2 = 0
      · rw [if_pos c] at qq
        exact ⟨r, _, a % 2, .ref p1, rfl, rfl, .inl (.inl e3), by rw [c]; exact atI_nat (j := 0) rfl, p1, _, 0, _, rfl, rfl, .inl (.inl g1), atI_nat (j := 0) rfl, qq⟩
      · rw [if_neg c] at qq
        have c1 : a % 2 = 1 := by omega
        exact ⟨r, _, a % 2, .ref p2, rfl, rfl, .inl (.inl e3), by rw [c1]; exact atI_nat (j := 1) rfl, p2, _, 0, _, rfl, rfl, .inl (.inl g2), atI_nat (j := 0) rfl, qq⟩
    · rw [if_neg z] at qq
      have n0 : (!decide (V.int a = V.int b)) = true := by simp [z]
      rw [n0]
      exact iteT qq
abbrev a_Hall___len__ : Stmt := inClass (topS 56) 1
abbrev n_Hall___len__ : List Str := ["self"]
theorem sc_Hall___len__ : FnScope n_Hall___len__ ["self"] (defScope a_Hall___len__) := ⟨rfl, rfl, rfl, by decide +kernel, rfl, by decide +kernel, by decide +kernel⟩
set_option maxHeartbeats 8000000 in
theorem ok_Hall___len__ {f  : Addr} {fd  : FuncData} {k : Nat} {CH CS C : Addr} (F : Fun K "__len__" "Hall.__len__" a_Hall___len__ f fd)  (XH : HallTxt K CH) (m_len : mg "len" = none) : FnOk P w K mg base CX0 (k + 1) f fd ["self"] (spHaLen CH CS C) := by
  refine F.ok sc_Hall___len__ (fun vs H Q E h => ?_) (fun cdv A outer s H vs Q E hr h => ?_)
  · obtain ⟨x, s, p, own, σ, ps, rfl, _⟩ := h
    rfl
  · obtain ⟨x, s, p, own, σ, ps, rfl, hx, ep, q⟩ := h
    refine ⟨_, (pss_one (ps_ret (pe_callB call_len_seq (by rfl) m_len (by decide +kernel) (pa_cons (pe_fld (pv 0) rfl) pa_nil)))), ?_⟩
    obtain ⟨dx, e, hs⟩ := hx
    exact ⟨.ref x, rfl, x, CH, dx, _, _, rfl, e, XH.cl, XH.n2, hk2, p, ps, rfl, .inr (.inl (.inl ep)), q⟩
abbrev a_Hall_numbered : Stmt := inClass (topS 56) 16
abbrev n_Hall_numbered : List Str := ["self"]
theorem sc_Hall_numbered : FnScope n_Hall_numbered ["self"] (defScope a_Hall_numbered) := ⟨rfl, rfl, rfl, by decide +kernel, rfl, by decide +kernel, by decide +kernel⟩
set_option maxHeartbeats 8000000 in
theorem ok_Hall_numbered {f fNu : Addr} {fd fdNu : FuncData} {k : Nat} {CH CS C : Addr} (F : Fun K "numbered" "Hall.numbered" a_Hall_numbered f fd) (Nu : Kn P w K mg base 1 "numbered_rules" ["state"] (spNumb CS C) fNu fdNu) (XH : HallTxt K CH)  : FnOk P w K mg base CX0 (k + 2) f fd ["self"] (spHaNum CH CS C) := by
  refine F.ok sc_Hall_numbered (fun vs H Q E h => ?_) (fun cdv A outer s H vs Q E hr h => ?_)
  · obtain ⟨x, s, p, own, σ, rfl, _⟩ := h
    rfl
  · obtain ⟨x, s, p, own, σ, rfl, hx, rg, q⟩ := h
    refine ⟨_, (pss_one (ps_ret (pe_kn Nu hr (by omega) (pa_cons (pe_fld (pv 0) rfl) pa_nil)))), ?_⟩
    obtain ⟨dx, e, hs⟩ := hx
    exact ⟨.ref x, rfl, x, CH, dx, _, _, rfl, e, XH.cl, XH.n1, hk1, s, own, σ, rfl, hs, rg, q⟩
abbrev a_Hall_standing : Stmt := inClass (topS 56) 17
abbrev n_Hall_standing : List Str := ["self"]
theorem sc_Hall_standing : FnScope n_Hall_standing ["self"] (defScope a_Hall_standing) := ⟨rfl, rfl, rfl, by decide +kernel, rfl, by decide +kernel, by decide +kernel⟩
set_option maxHeartbeats 8000000 in
theorem ok_Hall_standing {f fSo : Addr} {fd fdSo : FuncData} {k : Nat} {CH CS C : Addr} (F : Fun K "standing" "Hall.standing" a_Hall_standing f fd) (So : Kn P w K mg base 1 "standing_of" ["state"] (spStOf CS C) fSo fdSo) (XH : HallTxt K CH)  : FnOk P w K mg base CX0 (k + 2) f fd ["self"] (spHaSt CH CS C) := by
  refine F.ok sc_Hall_standing (fun vs H Q E h => ?_) (fun cdv A outer s H vs Q E hr h => ?_)
  · obtain ⟨x, s, p, own, σ, rfl, _⟩ := h
    rfl
  · obtain ⟨x, s, p, own, σ, rfl, hx, l12, q⟩ := h
    refine ⟨_, (pss_one (ps_ret (pe_kn So hr (by omega) (pa_cons (pe_fld (pv 0) rfl) pa_nil)))), ?_⟩
    obtain ⟨dx, e, hs⟩ := hx
    exact ⟨.ref x, rfl, x, CH, dx, _, _, rfl, e, XH.cl, XH.n1, hk1, s, own, σ, rfl, hs, l12, q⟩
abbrev a_Hall_heard : Stmt := inClass (topS 56) 18
abbrev n_Hall_heard : List Str := ["self", "hand"]
theorem sc_Hall_heard : FnScope n_Hall_heard ["self"] (defScope a_Hall_heard) := ⟨rfl, rfl, rfl, by decide +kernel, rfl, by decide +kernel, by decide +kernel⟩
set_option maxHeartbeats 8000000 in
theorem ok_Hall_heard {f  : Addr} {fd  : FuncData} {k : Nat} {CH CS C : Addr} (F : Fun K "heard" "Hall.heard" a_Hall_heard f fd)  (XH : HallTxt K CH) (XS : StateTxt K CS) (X : HandTxt K C) (m_tuple : mg "tuple" = none) : FnOk P w K mg base CX0 (k + 1) f fd ["self"] (spHaHd CH CS C) := by
  refine F.ok sc_Hall_heard (fun vs H Q E h => ?_) (fun cdv A outer s H vs Q E hr h => ?_)
  · obtain ⟨x, s, p, own, σ, rfl, _⟩ := h
    rfl
  · obtain ⟨x, s, p, own, σ, rfl, hx, l12, q⟩ := h
    refine ⟨_, (pss_one (ps_ret (pe_callTy call_tuple_of (by rfl) m_tuple (by decide +kernel) (pa_cons (
        pe_lc (own := [("hand", 1)]) (g := (gName 1)) (tt := tYes) (te := (tIf (tTest (tOp rIsN (tFld K (tVar 1) "wish") (tC .non))) (tC .non) (tOp (rIxT K) (tFld K (tVar 1) "wish") (tC (.int 0))))) rfl sc_Hall_heard.nd (pi_list (pe_fld (pe_fld (pv 0) rfl) rfl)) (blkOk_by (N := n_Hall_heard) (sc := defScope a_Hall_heard) (by decide +kernel))
          (fun _ _ _ _ _ => (pg_name (i := 1) sc_Hall_heard.nd rfl (.inl rfl) (hf := .inr rfl))) (fun _ _ _ _ _ => pts_nil) (fun _ _ _ _ _ => (pe_ifExp (pt_cmpR op_isN (pe_fld (pv 1) rfl) pe_non (nomark _)) pe_non (pe_ix (r := rIxT K) ix_tup (pe_fld (pv 1) rfl) pe_int (fun _ _ => rfl))))) pa_nil)))), ?_⟩
    obtain ⟨dx, e, hs⟩ := hx
    obtain ⟨ds, tp, R, Hs, Ls, zs, rs, ls, eo, st⟩ := hs
    have zl0 := st.fhs.len
    refine ⟨.ref x, rfl, x, CH, dx, _, _, rfl, e, XH.cl, XH.n1, hk1, s, CS, ds, _, _, rfl, st.fs, XS.cl, XS.n3, sk3, Hs, rfl, ⟨_, .inl (.inl st.fh)⟩, fun D nD => lc_it (walk_list (xs := zs.map fun z => V.ref z.1)) (fun i H' => Same H H' ∧ H' D = some (.lst ((σ.hands.take i).map hrdV))) ⟨same_new nD, upd_same⟩ (fun i H' _ p => .inl (.inl (p.1 _ _ st.fh))) (fun i v H4' H4 hi p yy => ?_) (fun H4 p => ?_)⟩
    · obtain ⟨s4, eD⟩ := p
      obtain ⟨rfl, gv⟩ := yy
      obtain ⟨z, ez, rfl⟩ := mapGet gv
      have st4 := st.same s4
      obtain ⟨h, eh, a0, _⟩ := st4.fhs.get ez
      have il : i < σ.hands.length := (List.getElem?_eq_some_iff.mp eh).1
      obtain ⟨dh, v, hs, g0, wv, _, _, _⟩ := id a0
      have g0' : H4 z.1 = some (.ins C dh [("thing", .int (h.thing : Int)), ("place", .int h.place), ("wish", v), ("held", .ref z.2.1), ("tally", .ref z.2.2)]) := g0
      have fin : ∃ acc, H4 D = some (.lst acc) ∧ acc.length < sizeLine ∧ Same H (upd H4 D (.lst (acc ++ [hrdV h]))) ∧ (upd H4 D (.lst (acc ++ [hrdV h]))) D = some (.lst ((σ.hands.take (i + 1)).map hrdV)) := by
        refine ⟨_, eD, ?_, same_over s4 nD, ?_⟩
        · rw [List.length_map, List.length_take]
          exact small1000 (by omega)
        · rw [upd_same, List.take_add_one, eh, List.map_append]
          rfl
      refine ⟨rfl, .ref z.1, rfl, z.1, C, dh, _, _, rfl, g0', X.cl, X.n3, lk3, ?_⟩
      unfold hrdV at fin
      cases ew : h.wish with
      | none =>
        rw [ew] at wv fin
        have : v = .non := wv
        subst this
        exact ⟨rfl, true, congrArg V.bl (decide_eq_true rfl), iteT fin⟩
      | some w0 =>
        rw [ew] at wv fin
        obtain ⟨p0, q0, rfl, ep, eq⟩ := wv
        exact ⟨rfl, false, congrArg V.bl (decide_eq_false (fun z => by cases z)), iteF ⟨.ref z.1, rfl, z.1, C, dh, _, _, rfl, g0', X.cl, X.n3, lk3, p0, _, 0, _, rfl, rfl, .inl (.inl ep), atI_nat (j := 0) rfl, fin⟩⟩
    · obtain ⟨s4, eD⟩ := p
      have tkh : σ.hands.take (zs.map fun z => V.ref z.1).length = σ.hands := List.take_of_length_le (by rw [List.length_map, zl0]; exact Nat.le_refl _)
      rw [tkh] at eD
      exact ⟨D, _, rfl, .inl ⟨.inl (.inl eD), fun g ng => q _ g (s4.trans (same_new ng)) upd_same⟩⟩
abbrev a_Hall_leaves : Stmt := inClass (topS 56) 19
abbrev n_Hall_leaves : List Str := ["self", "rows", "number", "rule", "first", "second"]
theorem sc_Hall_leaves : FnScope n_Hall_leaves ["self"] (defScope a_Hall_leaves) := ⟨rfl, rfl, rfl, by decide +kernel, rfl, by decide +kernel, by decide +kernel⟩
set_option maxHeartbeats 8000000 in
theorem ok_Hall_leaves {f fSc fLh : Addr} {fd fdSc fdLh : FuncData} {k : Nat} {CH CS C : Addr} (F : Fun K "leaves" "Hall.leaves" a_Hall_leaves f fd) (Sc : Kn P w K mg base 5 "shared_counts" ["state"] (spShCs CS C) fSc fdSc) (Lh : Kn P w K mg base 1 "leave_holder" ["rule", "first", "second"] spLvH fLh fdLh) (XH : HallTxt K CH) (m_tuple : mg "tuple" = none) : FnOk P w K mg base CX0 (k + 6) f fd ["self"] (spHaLv CH CS C) := by
  refine F.ok sc_Hall_leaves (fun vs H Q E h => ?_) (fun cdv A outer s H vs Q E hr h => ?_)
  · obtain ⟨x, s, p, own, σ, rfl, _⟩ := h
    rfl
  · obtain ⟨x, s, p, own, σ, rfl, hx, so, q⟩ := h
    refine ⟨_, (pss_cons (ps_set (i := 1) sc_Hall_leaves.nd rfl (.inl rfl) (pe_kn Sc hr (by omega) (pa_cons (pe_fld (pv 0) rfl) pa_nil)))
      (pss_one (ps_ret (pe_callTy call_tuple_of (by rfl) m_tuple (by decide +kernel) (pa_cons (
        pe_lc (own := [("number", 2), ("rule", 3), ("first", 4), ("second", 5)]) (g := (gTup K 4 (gCons (gName 2) (gCons (gName 3) (gCons (gName 4) (gCons (gName 5) gNil)))))) (tt := tYes) (te := (tTup (tCons (tVar 2) (tCons (tCall spLvH [] E0 (tCons (tVar 3) (tCons (tVar 4) (tCons (tVar 5) tNil)))) tNil)))) rfl sc_Hall_leaves.nd (pi_list (pv 1)) (blkOk_by (N := n_Hall_leaves) (sc := defScope a_Hall_leaves) (by decide +kernel))
          (fun _ _ _ _ _ => (pg_tup rfl (pgs_cons (pg_name (i := 2) sc_Hall_leaves.nd rfl (.inl rfl) (hf := .inr rfl)) (pgs_cons (pg_name (i := 3) sc_Hall_leaves.nd rfl (.inl rfl) (hf := .inr rfl)) (pgs_cons (pg_name (i := 4) sc_Hall_leaves.nd rfl (.inl rfl) (hf := .inr rfl)) (pgs_cons (pg_name (i := 5) sc_Hall_leaves.nd rfl (.inl rfl) (hf := .inr rfl)) pgs_nil)))))) (fun _ _ _ _ _ => pts_nil) (fun _ _ _ _ _ => (pe_tup (pa_cons (pv 2) (pa_cons (pe_kn Lh hr (by omega) (pa_cons (pv 3) (pa_cons (pv 4) (pa_cons (pv 5) pa_nil)))) pa_nil))))) pa_nil))))), ?_⟩
    obtain ⟨dx, e, hs⟩ := hx
    obtain ⟨rg, sh⟩ := so
    refine ⟨.ref x, rfl, x, CH, dx, _, _, rfl, e, XH.cl, XH.n1, hk1, s, own, σ, rfl, hs, rg, sh, fun H1 g as s1 eg cs => ⟨.ref g, rfl, g, rfl, ⟨_, .inl (.inl eg)⟩, fun D nD => lc_it (walk_list (xs := as.map V.ref)) (fun i H' => Same H1 H' ∧ ∃ bs : List Addr, H' D = some (.lst (bs.map V.ref)) ∧ PrsAt H' bs (((shCs σ σ.rules).take i).map lvRow)) ⟨same_new nD, [], upd_same, PrsAt.nil⟩ (fun i H' _ p => .inl (.inl (p.1 _ _ eg))) (fun i v H4' H4 hi p yy => ?_) (fun H4 p => ?_)⟩⟩
    · obtain ⟨s4, bs, eD, pr⟩ := p
      obtain ⟨rfl, gv⟩ := yy
      obtain ⟨a, ea, rfl⟩ := mapGet gv
      have il : i < (shCs σ σ.rules).length := by rw [← cs.1]; simpa using hi
      have er : (shCs σ σ.rules)[i]? = some (shCs σ σ.rules)[i] := List.getElem?_eq_getElem il
      have sl : (shCs σ σ.rules).length ≤ 60 := by
        unfold shCs
        rw [List.length_map]
        exact Nat.le_trans (List.length_filter_le _ _) rg.2
      generalize (shCs σ σ.rules)[i] = r0 at er
      obtain ⟨p, e1, e2⟩ := (cs.tk (tk_same s4)).2 i a r0 ea er
      refine ⟨a, _, rfl, .inl (.inl e1), rfl, _, _, rfl, _, _, rfl, _, _, rfl, _, _, rfl, rfl, rfl, .int r0.1, rfl, .ref p, rfl, .int r0.2.2.1, rfl, .int r0.2.2.2, rfl, p, r0.2.1, r0.2.2.1, r0.2.2.2, rfl, e2, (show 2 ≤ sizeLine by decide), fun N nN => ?_⟩
      have s6 := s4.trans (same_new (o := HO.tup [.int r0.1, lvV r0.2.1 r0.2.2.1 r0.2.2.2]) nN)
      have n6 : (upd H4 N (HO.tup [.int r0.1, lvV r0.2.1 r0.2.2.1 r0.2.2.2])) N = some (.tup (lvRow r0)) := upd_same
      have pr6 := pr.tk (tk_same (same_new (o := HO.tup [.int r0.1, lvV r0.2.1 r0.2.2.1 r0.2.2.2]) nN))
      have eD6 := same_new (o := HO.tup [.int r0.1, lvV r0.2.1 r0.2.2.1 r0.2.2.2]) nN _ _ eD
      generalize upd H4 N (HO.tup [.int r0.1, lvV r0.2.1 r0.2.2.1 r0.2.2.2]) = H6 at s6 n6 pr6 eD6 ⊢
      have kD : TupK H6 (upd H6 D (.lst (bs.map V.ref ++ [.ref N]))) := fun b xs e => (upd_ne (fun w => by rw [w, eD6] at e; cases e)).trans e
      refine ⟨_, eD6, ?_, same_over s6 nD, bs ++ [N], by rw [upd_same, List.map_append]; rfl, ?_⟩
      · rw [List.length_map, pr.1, List.length_map, List.length_take]
        exact small1000 (by omega)
      · rw [List.take_add_one, er, List.map_append]
        exact (pr6.tk kD).snoc (r := lvRow r0) (kD _ _ n6)
    · obtain ⟨s4, bs, eD, pr⟩ := p
      have tk : (shCs σ σ.rules).take (as.map V.ref).length = shCs σ σ.rules := List.take_of_length_le (by rw [List.length_map, cs.1]; exact Nat.le_refl _)
      rw [tk] at pr
      exact ⟨D, _, rfl, .inl ⟨.inl (.inl eD), fun g2 ng => q _ g2 bs ((s1.trans s4).trans (same_new ng)) upd_same (pr.tk (tk_same (same_new ng)))⟩⟩
abbrev a_Hall_counts : Stmt := inClass (topS 56) 20
abbrev n_Hall_counts : List Str := ["self", "number", "rule", "first", "second"]
theorem sc_Hall_counts : FnScope n_Hall_counts ["self"] (defScope a_Hall_counts) := ⟨rfl, rfl, rfl, by decide +kernel, rfl, by decide +kernel, by decide +kernel⟩
set_option maxHeartbeats 8000000 in
theorem ok_Hall_counts {f fSc : Addr} {fd fdSc : FuncData} {k : Nat} {CH CS C : Addr} (F : Fun K "counts" "Hall.counts" a_Hall_counts f fd) (Sc : Kn P w K mg base 5 "shared_counts" ["state"] (spShCs CS C) fSc fdSc) (XH : HallTxt K CH) (m_max : mg "max" = none) (m_tuple : mg "tuple" = none) : FnOk P w K mg base CX0 (k + 6) f fd ["self"] (spHaCt CH CS C) := by
  refine F.ok sc_Hall_counts (fun vs H Q E h => ?_) (fun cdv A outer s H vs Q E hr h => ?_)
  · obtain ⟨x, s, p, own, σ, rfl, _⟩ := h
    rfl
  · obtain ⟨x, s, p, own, σ, rfl, hx, so, q⟩ := h
    refine ⟨_, (pss_one (ps_ret (pe_callTy call_tuple_of (by rfl) m_tuple (by decide +kernel) (pa_cons (
        pe_lc (own := [("number", 1), ("rule", 2), ("first", 3), ("second", 4)]) (g := (gTup K 4 (gCons (gName 1) (gCons (gName 2) (gCons (gName 3) (gCons (gName 4) gNil)))))) (tt := tYes) (te := (tTup (tCons (tVar 1) (tCons (tCB (fun xs H Q => ∃ i j, xs = [.int i, .int j] ∧ Q (.int (if j > i then j else i)) H) (tCons (tVar 3) (tCons (tVar 4) tNil))) tNil)))) rfl sc_Hall_counts.nd (pi_list (pe_kn Sc hr (by omega) (pa_cons (pe_fld (pv 0) rfl) pa_nil))) (blkOk_by (N := n_Hall_counts) (sc := defScope a_Hall_counts) (by decide +kernel))
          (fun _ _ _ _ _ => (pg_tup rfl (pgs_cons (pg_name (i := 1) sc_Hall_counts.nd rfl (.inl rfl) (hf := .inr rfl)) (pgs_cons (pg_name (i := 2) sc_Hall_counts.nd rfl (.inl rfl) (hf := .inr rfl)) (pgs_cons (pg_name (i := 3) sc_Hall_counts.nd rfl (.inl rfl) (hf := .inr rfl)) (pgs_cons (pg_name (i := 4) sc_Hall_counts.nd rfl (.inl rfl) (hf := .inr rfl)) pgs_nil)))))) (fun _ _ _ _ _ => pts_nil) (fun _ _ _ _ _ => (pe_tup (pa_cons (pv 1) (pa_cons (pe_callB (call_max2 rfl) (by rfl) m_max (by decide +kernel) (pa_cons (pv 3) (pa_cons (pv 4) pa_nil))) pa_nil))))) pa_nil)))), ?_⟩
    obtain ⟨dx, e, hs⟩ := hx
    obtain ⟨rg, sh⟩ := so
    refine ⟨.ref x, rfl, x, CH, dx, _, _, rfl, e, XH.cl, XH.n1, hk1, s, own, σ, rfl, hs, rg, sh, fun H1 g as s1 eg cs => ⟨g, rfl, ⟨_, .inl (.inl eg)⟩, fun D nD => lc_it (walk_list (xs := as.map V.ref)) (fun i H' => Same H1 H' ∧ ∃ bs : List Addr, H' D = some (.lst (bs.map V.ref)) ∧ PrsAt H' bs (((shCs σ σ.rules).take i).map ctRow)) ⟨same_new nD, [], upd_same, PrsAt.nil⟩ (fun i H' _ p => .inl (.inl (p.1 _ _ eg))) (fun i v H4' H4 hi p yy => ?_) (fun H4 p => ?_)⟩⟩
    · obtain ⟨s4, bs, eD, pr⟩ := p
      obtain ⟨rfl, gv⟩ := yy
      obtain ⟨a, ea, rfl⟩ := mapGet gv
      have il : i < (shCs σ σ.rules).length := by rw [← cs.1]; simpa using hi
      have er : (shCs σ σ.rules)[i]? = some (shCs σ σ.rules)[i] := List.getElem?_eq_getElem il
      have sl : (shCs σ σ.rules).length ≤ 60 := by
        unfold shCs
        rw [List.length_map]
        exact Nat.le_trans (List.length_filter_le _ _) rg.2
      generalize (shCs σ σ.rules)[i] = r0 at er
      obtain ⟨p, e1, e2⟩ := (cs.tk (tk_same s4)).2 i a r0 ea er
      refine ⟨a, _, rfl, .inl (.inl e1), rfl, _, _, rfl, _, _, rfl, _, _, rfl, _, _, rfl, rfl, rfl, .int r0.1, rfl, .int r0.2.2.1, rfl, .int r0.2.2.2, rfl, r0.2.2.1, r0.2.2.2, rfl, (show 2 ≤ sizeLine by decide), fun N nN => ?_⟩
      have s6 := s4.trans (same_new (o := HO.tup [.int r0.1, .int (if r0.2.2.2 > r0.2.2.1 then r0.2.2.2 else r0.2.2.1)]) nN)
      have n6 : (upd H4 N (HO.tup [.int r0.1, .int (if r0.2.2.2 > r0.2.2.1 then r0.2.2.2 else r0.2.2.1)])) N = some (.tup (ctRow r0)) := upd_same
      have pr6 := pr.tk (tk_same (same_new (o := HO.tup [.int r0.1, .int (if r0.2.2.2 > r0.2.2.1 then r0.2.2.2 else r0.2.2.1)]) nN))
      have eD6 := same_new (o := HO.tup [.int r0.1, .int (if r0.2.2.2 > r0.2.2.1 then r0.2.2.2 else r0.2.2.1)]) nN _ _ eD
      generalize upd H4 N (HO.tup [.int r0.1, .int (if r0.2.2.2 > r0.2.2.1 then r0.2.2.2 else r0.2.2.1)]) = H6 at s6 n6 pr6 eD6 ⊢
      have kD : TupK H6 (upd H6 D (.lst (bs.map V.ref ++ [.ref N]))) := fun b xs e => (upd_ne (fun w => by rw [w, eD6] at e; cases e)).trans e
      refine ⟨_, eD6, ?_, same_over s6 nD, bs ++ [N], by rw [upd_same, List.map_append]; rfl, ?_⟩
      · rw [List.length_map, pr.1, List.length_map, List.length_take]
        exact small1000 (by omega)
      · rw [List.take_add_one, er, List.map_append]
        exact (pr6.tk kD).snoc (r := ctRow r0) (kD _ _ n6)
    · obtain ⟨s4, bs, eD, pr⟩ := p
      have tk : (shCs σ σ.rules).take (as.map V.ref).length = shCs σ σ.rules := List.take_of_length_le (by rw [List.length_map, cs.1]; exact Nat.le_refl _)
      rw [tk] at pr
      exact ⟨D, _, rfl, .inl ⟨.inl (.inl eD), fun g2 ng => q _ g2 bs ((s1.trans s4).trans (same_new ng)) upd_same (pr.tk (tk_same (same_new ng)))⟩⟩
abbrev a_Hall_under_way : Stmt := inClass (topS 56) 21
abbrev n_Hall_under_way : List Str := ["self"]
theorem sc_Hall_under_way : FnScope n_Hall_under_way ["self"] (defScope a_Hall_under_way) := ⟨rfl, rfl, rfl, by decide +kernel, rfl, by decide +kernel, by decide +kernel⟩
set_option maxHeartbeats 8000000 in
theorem ok_Hall_under_way {f  : Addr} {fd  : FuncData} {k : Nat} {CH CS C : Addr} (F : Fun K "under_way" "Hall.under_way" a_Hall_under_way f fd)  (XH : HallTxt K CH) (XS : StateTxt K CS) (m_tuple : mg "tuple" = none) : FnOk P w K mg base CX0 (k + 1) f fd ["self"] (spHaLt CH CS C) := by
  refine F.ok sc_Hall_under_way (fun vs H Q E h => ?_) (fun cdv A outer s H vs Q E hr h => ?_)
  · obtain ⟨x, s, p, own, σ, rfl, _⟩ := h
    rfl
  · obtain ⟨x, s, p, own, σ, rfl, hx, q⟩ := h
    refine ⟨_, (pss_one (ps_ret (pe_callTy call_tuple_of (by rfl) m_tuple (by decide +kernel) (pa_cons (pe_fld (pe_fld (pv 0) rfl) rfl) pa_nil)))), ?_⟩
    obtain ⟨dx, e, hs⟩ := hx
    obtain ⟨ds, tp, R, Hs, Ls, zs, rs, ls, eo, st⟩ := hs
    exact ⟨.ref x, rfl, x, CH, dx, _, _, rfl, e, XH.cl, XH.n1, hk1, s, CS, ds, _, _, rfl, st.fs, XS.cl, XS.n4, sk4, Ls, _, rfl, .inl ⟨.inl (.inl st.fl), fun g ng => q _ g ls (same_new ng) upd_same (st.fla.tk (tk_same (same_new ng)))⟩⟩
abbrev a_Hall_waiting : Stmt := inClass (topS 56) 22
abbrev n_Hall_waiting : List Str := ["self", "hand", "number"]
theorem sc_Hall_waiting : FnScope n_Hall_waiting ["self"] (defScope a_Hall_waiting) := ⟨rfl, rfl, rfl, by decide +kernel, rfl, by decide +kernel, by decide +kernel⟩
set_option maxHeartbeats 8000000 in
theorem ok_Hall_waiting {f  : Addr} {fd  : FuncData} {k : Nat} {CH CS C : Addr} (F : Fun K "waiting" "Hall.waiting" a_Hall_waiting f fd) (La : C8.Met P w K mg base 6 C "lacks" (spLkL C) []) (XH : HallTxt K CH) (XS : StateTxt K CS) (X : HandTxt K C) (m_tuple : mg "tuple" = none) : FnOk P w K mg base CX0 (k + 7) f fd ["self"] (spHaWt CH CS C) := by
  refine F.ok sc_Hall_waiting (fun vs H Q E h => ?_) (fun cdv A outer s H vs Q E hr h => ?_)
  · obtain ⟨x, s, p, own, σ, rfl, _⟩ := h
    rfl
  · obtain ⟨x, s, p, own, σ, rfl, hx, l12, hw, q⟩ := h
    refine ⟨_, (pss_one (ps_ret (pe_callTy call_tuple_of (by rfl) m_tuple (by decide +kernel) (pa_cons (
        pe_lc2 (own := [("hand", 1), ("number", 2)]) (vs1 := [2]) (g := (gName 1)) (tt := tYes) (wi1 := (iTup K (tMeth C "lacks" (spLkL C) [] E0 (tVar 1) tNil))) (g1 := (gName 2)) (tt1 := tYes) (te := (tTup (tCons (tFld K (tVar 1) "thing") (tCons (tVar 2) tNil)))) rfl sc_Hall_waiting.nd (pi_list (pe_fld (pe_fld (pv 0) rfl) rfl)) (blkOk_by (N := n_Hall_waiting) (sc := defScope a_Hall_waiting) (by decide +kernel)) (by decide)
          (fun _ _ _ _ _ => (pg_name (i := 1) sc_Hall_waiting.nd rfl (.inl rfl) (hf := .inr rfl))) (fun _ _ _ _ _ => pts_nil) (fun _ _ _ _ _ => (pi_tup (C8.pe_mt0 La hr (by omega) (pv 1)))) (fun _ _ _ _ _ => (pg_name (i := 2) sc_Hall_waiting.nd rfl (.inl rfl) (hf := .inr rfl))) (fun _ _ _ _ _ => pts_nil) (fun _ _ _ _ _ => (pe_tup (pa_cons (pe_fld (pv 1) rfl) (pa_cons (pv 2) pa_nil))))) pa_nil)))), ?_⟩
    obtain ⟨dx, e, hs⟩ := hx
    obtain ⟨ds, tp, R, Hs, Ls, zs, rs, ls, eo, st⟩ := hs
    have zl0 := st.fhs.len
    refine ⟨.ref x, rfl, x, CH, dx, _, _, rfl, e, XH.cl, XH.n1, hk1, s, CS, ds, _, _, rfl, st.fs, XS.cl, XS.n3, sk3, Hs, rfl, ⟨_, .inl (.inl st.fh)⟩, fun D nD => lc_out (walk_list (xs := zs.map fun z => V.ref z.1)) (fun i H' => Same H H' ∧ ∃ (bs : List Addr) (rs : List (Nat × Int)), H' D = some (.lst (bs.map V.ref)) ∧ LksL (σ.hands.take i) rs ∧ PrsAt H' bs (rs.map lkRow) ∧ rs.length ≤ 40 * i) ⟨same_new nD, [], [], upd_same, .nil, PrsAt.nil, Nat.zero_le _⟩ (fun i H' _ p => .inl (.inl (p.1 _ _ st.fh))) (fun i v H4' H4 hi p yy => ?_) (fun H4 p => ?_)⟩
    · obtain ⟨s4, bs, rs, eD, lk, pr, lr⟩ := p
      obtain ⟨rfl, gv⟩ := yy
      obtain ⟨z, ez, rfl⟩ := mapGet gv
      have st4 := st.same s4
      obtain ⟨h, eh, a0, _⟩ := st4.fhs.get ez
      have il : i < σ.hands.length := (List.getElem?_eq_some_iff.mp eh).1
      obtain ⟨h40, hwi⟩ := hw h (List.mem_of_getElem? eh)
      have tke : σ.hands.take (i + 1) = σ.hands.take i ++ [h] := by rw [List.take_add_one, eh]; rfl
      obtain ⟨dh, v, hs, g0, _, _, _, _⟩ := id a0
      refine ⟨rfl, .ref z.1, rfl, z.1, dh, _, rfl, g0, lkm, z.1, z.2.1, z.2.2, h, rfl, a0, h40, hwi, fun H5 g ys s5 eg lks => ⟨g, rfl, ⟨_, .inl (.inl eg)⟩, ?_⟩⟩
      have yl := lk_len lks
      have s45 := s4.trans s5
      have eD5 := s5 _ _ eD
      have pr5 := pr.tk (tk_same s5)
      have bl := pr.1
      rw [List.length_map] at bl
      refine lc_in (walk_tup (xs := ys.map V.int)) (fun j H' => Same H H' ∧ H' g = some (.tup (ys.map V.int)) ∧ ∃ bs : List Addr, H' D = some (.lst (bs.map V.ref)) ∧ PrsAt H' bs ((rs ++ (ys.take j).map fun y => (h.thing, y)).map lkRow)) ⟨s45, eg, bs, eD5, by rw [List.take_zero, List.map_nil, List.append_nil]; exact pr5⟩ (fun j H' _ p => .inl (.inl p.2.1)) (fun j v H6' H6 hj p yy => ?_) (fun H6 p => ?_)
      · obtain ⟨s6, eg6, bs', eD6, pr6⟩ := p
        obtain ⟨rfl, gv⟩ := yy
        obtain ⟨y, ey, rfl⟩ := mapGet gv
        have jl : j < ys.length := (List.getElem?_eq_some_iff.mp ey).1
        have g6 := (st.same s6).fhs.get ez
        obtain ⟨h', eh', a6, _⟩ := g6
        have hh : h' = h := Option.some.inj (eh'.symm.trans eh)
        subst hh
        obtain ⟨dh6, v6, hs6, g6, _, _, _, _⟩ := id a6
        have g6' : H6 z.1 = some (.ins C dh6 [("thing", .int (h'.thing : Int)), ("place", .int h'.place), ("wish", v6), ("held", .ref z.2.1), ("tally", .ref z.2.2)]) := g6
        refine ⟨rfl, .ref z.1, rfl, z.1, C, dh6, _, _, rfl, g6', X.cl, X.n1, lk1, .int y, rfl, (show 2 ≤ sizeLine by decide), fun N nN => ?_⟩
        have s7 := same_new (o := HO.tup [V.int (h'.thing : Int), V.int y]) nN
        have n7 : (upd H6 N (HO.tup [V.int (h'.thing : Int), V.int y])) N = some (.tup (lkRow (h'.thing, y))) := upd_same
        have pr7 := pr6.tk (tk_same s7)
        have eD7 := s7 _ _ eD6
        have eg7 := s7 _ _ eg6
        have s67 := s6.trans s7
        generalize upd H6 N (HO.tup [V.int (h'.thing : Int), V.int y]) = H7 at n7 pr7 eD7 eg7 s67 ⊢
        have kD : TupK H7 (upd H7 D (.lst (bs'.map V.ref ++ [.ref N]))) := fun b xs e => (upd_ne (fun w => by rw [w, eD7] at e; cases e)).trans e
        refine ⟨_, eD7, ?_, same_over s67 nD, kD _ _ eg7, bs' ++ [N], by rw [upd_same, List.map_append]; rfl, ?_⟩
        · have := pr6.1
          rw [List.length_map, List.length_append, List.length_map, List.length_take] at this
          rw [List.length_map]
          exact small1000 (by omega)
        · have := (pr7.tk kD).snoc (r := lkRow (h'.thing, y)) (kD _ _ n7)
          rw [List.take_add_one, ey]
          show PrsAt _ _ ((rs ++ (ys.take j ++ [y]).map fun y => (h'.thing, y)).map lkRow)
          have ea : (rs ++ (ys.take j ++ [y]).map fun y => (h'.thing, y)) = (rs ++ (ys.take j).map fun y => (h'.thing, y)) ++ [(h'.thing, y)] := by
            rw [List.map_append, ← List.append_assoc]
            rfl
          rw [ea, List.map_append]
          exact this
      · obtain ⟨s6, eg6, bs', eD6, pr6⟩ := p
        have tk : ys.take (ys.map V.int).length = ys := List.take_of_length_le (by rw [List.length_map]; exact Nat.le_refl _)
        rw [tk] at pr6
        refine ⟨s6, bs', _, eD6, ?_, pr6, ?_⟩
        · rw [tke]
          exact .snoc lk lks
        · rw [List.length_append, List.length_map]
          omega
    · obtain ⟨s4, bs, rs, eD, lk, pr, _⟩ := p
      have tkh : σ.hands.take (zs.map fun z => V.ref z.1).length = σ.hands := List.take_of_length_le (by rw [List.length_map, zl0]; exact Nat.le_refl _)
      rw [tkh] at lk
      exact ⟨D, _, rfl, .inl ⟨.inl (.inl eD), fun g ng => q _ g bs rs (s4.trans (same_new ng)) upd_same lk (pr.tk (tk_same (same_new ng)))⟩⟩
abbrev a_Hall_gone : Stmt := inClass (topS 56) 24
abbrev n_Hall_gone : List Str := ["self"]
theorem sc_Hall_gone : FnScope n_Hall_gone ["self"] (defScope a_Hall_gone) := ⟨rfl, rfl, rfl, by decide +kernel, rfl, by decide +kernel, by decide +kernel⟩
set_option maxHeartbeats 8000000 in
theorem ok_Hall_gone {f  : Addr} {fd  : FuncData} {k : Nat} {CH CS C : Addr} (F : Fun K "gone" "Hall.gone" a_Hall_gone f fd)  (XH : HallTxt K CH) (XS : StateTxt K CS)  : FnOk P w K mg base CX0 (k + 1) f fd ["self"] (spHaGn CH CS C) := by
  refine F.ok sc_Hall_gone (fun vs H Q E h => ?_) (fun cdv A outer s H vs Q E hr h => ?_)
  · obtain ⟨x, s, p, own, σ, rfl, _⟩ := h
    rfl
  · obtain ⟨x, s, p, own, σ, rfl, hx, q⟩ := h
    refine ⟨_, (pss_one (ps_ret (pe_fld (pe_fld (pv 0) rfl) rfl))), ?_⟩
    obtain ⟨dx, e, hs⟩ := hx
    obtain ⟨ds, tp, R, Hs, Ls, zs, rs, ls, eo, st⟩ := hs
    exact ⟨.ref x, rfl, x, CH, dx, _, _, rfl, e, XH.cl, XH.n1, hk1, s, CS, ds, _, _, rfl, st.fs, XS.cl, XS.n8, sk8, q⟩
end
end K66

set_option Elab.async false
set_option linter.all false
set_option maxRecDepth 100000
namespace K66
open PySem PySem.Spec PyProof.Rows L2 NB

/-! ### what the first state is -/
theorem look_snoc (rows : List (Int × Rl × Int)) (r : Int × Rl × Int) (m : Int) : look (rows ++ [r]) m = match look rows m with
  | some z => some z
  | none => if r.1 = m then some r.2 else none := by
  induction rows with
  | nil =>
    show look [r] m = if r.1 = m then some r.2 else none
    rw [look_cons]
    rfl
  | cons y ys ih =>
    rw [List.cons_append, look_cons, look_cons]
    by_cases c : y.1 = m
    · rw [if_pos c, if_pos c]
    · rw [if_neg c, if_neg c]
      exact ih
theorem look_out {rows : List (Int × Rl × Int)} {m : Int} (h : ∀ k ∈ rows.map (·.1), k ≠ m) : look rows m = none := by
  induction rows with
  | nil => rfl
  | cons y ys ih =>
    rw [look_cons, if_neg (h y.1 (by simp))]
    exact ih fun k hk => h k (by rw [List.map_cons]; exact List.mem_cons_of_mem _ hk)
def putH (h : Hd) (n : Int) (q : Rl) (c : Int) : Hd := { h with rows := h.rows ++ [(n, q, c)] }
theorem putHs_get (n : Int) (q : Rl) (c : Int) : ∀ (ts : List Nat) (hs : List Hd), ts.Nodup → ∀ j, (putHs hs ts n q c)[j]? = hs[j]?.map fun h => if j ∈ ts then putH h n q c else h
  | [], hs, _, j => by
    show hs[j]? = _
    cases hs[j]? with
    | none => rfl
    | some h => rfl
  | t :: ts, hs, nd, j => by
    have nd' := List.nodup_cons.mp nd
    show (putHs (match hs[t]? with
      | some h => hs.set t { h with rows := h.rows ++ [(n, q, c)] }
      | none => hs) ts n q c)[j]? = _
    rw [putHs_get n q c ts _ nd'.2 j]
    cases et : hs[t]? with
    | none =>
      show hs[j]?.map _ = _
      by_cases w : j = t
      · rw [w, et]
        rfl
      · cases hs[j]? with
        | none => rfl
        | some h =>
          show some (if j ∈ ts then _ else _) = some (if j ∈ t :: ts then _ else _)
          simp only [List.mem_cons, w, false_or]
    | some g =>
      show (hs.set t (putH g n q c))[j]?.map _ = _
      have tl := (List.getElem?_eq_some_iff.mp et).1
      by_cases w : j = t
      · rw [w, List.getElem?_set_self tl, et]
        show some (if t ∈ ts then _ else _) = some (if t ∈ t :: ts then _ else _)
        rw [if_neg nd'.1, if_pos List.mem_cons_self]
      · rw [List.getElem?_set_ne (Ne.symm w)]
        cases hs[j]? with
        | none => rfl
        | some h =>
          show some (if j ∈ ts then _ else _) = some (if j ∈ t :: ts then _ else _)
          simp only [List.mem_cons, w, false_or]
theorem ths_mem (q : Rl) (t : Nat) : t ∈ thsOf q ↔ t = q.1.1 ∨ t = q.2.1 := by
  unfold thsOf
  by_cases c : q.1.1 = q.2.1
  · rw [if_pos c, List.mem_singleton, ← c]
    simp
  · rw [if_neg c]
    by_cases d : q.1.1 < q.2.1
    · rw [if_pos d]
      simp
    · rw [if_neg d]
      simp only [List.mem_cons, List.not_mem_nil, or_false]
      exact ⟨Or.symm, Or.symm⟩
theorem numR_snoc (rs : List Rl) (q : Rl) : numR (rs ++ [q]) = numR rs ++ [((rs.length : Int), q)] := by
  unfold numR
  rw [List.zipIdx_append, List.map_append]
  show _ ++ [(((0 + rs.length : Nat) : Int), q)] = _
  rw [Nat.zero_add]
structure FsI (tops xs : List Int) (σ : Sta) (rs : List Rl) : Prop where
  tops : σ.tops = tops
  rules : σ.rules = numR rs
  nr : σ.nr = rs.length
  nm : σ.nm = 0
  lw : σ.lw = 0
  ag : σ.ag = 0
  let0 : σ.letters = []
  hn : σ.hands.length = xs.length
  hs : ∀ (j : Nat) h, σ.hands[j]? = some h → h.thing = j ∧ xs[j]? = some h.place ∧ h.wish = none ∧ (∀ (i : Nat) q, rs[i]? = some q → j ∈ thsOf q → look h.rows (i : Int) = some (q, frC q xs)) ∧ (∀ k ∈ h.rows.map (·.1), k < (rs.length : Int)) ∧ h.rows.length ≤ rs.length
theorem FsI.pls {tops xs : List Int} {σ : Sta} {rs : List Rl} (f : FsI tops xs σ rs) : plsOf σ = xs := by
  refine List.ext_getElem? fun j => ?_
  show (σ.hands.map (·.place))[j]? = _
  rw [List.getElem?_map]
  cases e : σ.hands[j]? with
  | none =>
    rw [List.getElem?_eq_none_iff] at e
    rw [List.getElem?_eq_none (by have := f.hn; omega)]
    rfl
  | some h =>
    rw [(f.hs j h e).2.1]
    rfl
theorem fsI0 (tops xs : List Int) : FsI tops xs (zeroS tops xs) [] := by
  refine ⟨rfl, rfl, rfl, rfl, rfl, rfl, rfl, hds0_len 0 xs, fun j h e => ?_⟩
  have e' : (hds0 0 xs)[j]? = some h := e
  rw [hds0_get] at e'
  obtain ⟨p, ep, rfl⟩ := Option.map_eq_some_iff.mp e'
  exact ⟨Nat.zero_add j, ep, rfl, (fun i q e => by rw [List.getElem?_nil] at e; cases e), fun k h => absurd h List.not_mem_nil, Nat.le_refl _⟩
theorem FsI.more {tops xs : List Int} {σ : Sta} {rs : List Rl} (f : FsI tops xs σ rs) (q : Rl) : FsI tops xs (addR σ q) (rs ++ [q]) := by
  have hl : (addR σ q).hands = putHs σ.hands (thsOf q) σ.nr q (frC q (plsOf σ)) := rfl
  have nr' : (addR σ q).nr = σ.nr + 1 := rfl
  have rl : (addR σ q).rules = σ.rules ++ [(σ.nr, q)] := rfl
  have ll : (rs ++ [q]).length = rs.length + 1 := by rw [List.length_append]; rfl
  refine ⟨f.tops, by rw [rl, f.rules, f.nr, numR_snoc], by rw [nr', f.nr, ll]; rfl, f.nm, f.lw, f.ag, f.let0, by rw [hl, putHs_len]; exact f.hn, fun j h e => ?_⟩
  rw [hl, putHs_get _ _ _ _ _ (ths_nodup q) j, f.pls] at e
  obtain ⟨g, eg, eh⟩ := Option.map_eq_some_iff.mp e
  obtain ⟨h1, h2, h3, h4, h5, h6⟩ := f.hs j g eg
  have new : look g.rows (rs.length : Int) = none := look_out fun k hk => by have := h5 k hk; omega
  by_cases c : j ∈ thsOf q
  · rw [if_pos c] at eh
    subst eh
    have er : (putH g σ.nr q (frC q xs)).rows = g.rows ++ [(σ.nr, q, frC q xs)] := rfl
    refine ⟨h1, h2, h3, fun i q' ei hj => ?_, fun k hk => ?_, ?_⟩
    · rw [er, look_snoc]
      rcases Nat.lt_or_ge i rs.length with l | l
      · rw [List.getElem?_append_left l] at ei
        rw [h4 i q' ei hj]
      · have hi := (List.getElem?_eq_some_iff.mp ei).1
        have i0 : i = rs.length := by omega
        rw [i0, List.getElem?_append_right (Nat.le_refl _), Nat.sub_self] at ei
        cases ei
        rw [i0, new, f.nr]
        show (if (rs.length : Int) = rs.length then _ else _) = _
        rw [if_pos rfl]
    · rw [er, List.map_append, List.mem_append] at hk
      rcases hk with z | z
      · have := h5 k z
        omega
      · have : k = σ.nr := by simpa using z
        have := f.nr
        omega
    · rw [er, List.length_append, ll]
      show g.rows.length + 1 ≤ _
      omega
  · rw [if_neg c] at eh
    subst eh
    refine ⟨h1, h2, h3, fun i q' ei hj => ?_, fun k hk => ?_, by omega⟩
    · rcases Nat.lt_or_ge i rs.length with l | l
      · rw [List.getElem?_append_left l] at ei
        exact h4 i q' ei hj
      · have hi := (List.getElem?_eq_some_iff.mp ei).1
        have i0 : i = rs.length := by omega
        rw [i0, List.getElem?_append_right (Nat.le_refl _), Nat.sub_self] at ei
        cases ei
        exact absurd hj c
    · have := h5 k hk
      omega
theorem first_inv (tops xs : List Int) (rs : List Rl) : FsI tops xs (firstS tops xs rs) rs := by
  have go : ∀ (rs done : List Rl) (σ : Sta), FsI tops xs σ done → FsI tops xs (rs.foldl addR σ) (done ++ rs) := by
    intro rs
    induction rs with
    | nil =>
      intro done σ f
      rw [List.append_nil]
      exact f
    | cons q rs ih =>
      intro done σ f
      have := ih (done ++ [q]) (addR σ q) (f.more q)
      rw [List.append_assoc] at this
      exact this
  have := go rs [] _ (fsI0 tops xs)
  rw [List.nil_append] at this
  exact this
theorem numR_rising (rs : List Rl) : ((numR rs).map (·.1)).Pairwise (· < ·) := by
  rw [List.pairwise_iff_getElem]
  intro i j hi hj l
  have g : ∀ (k : Nat) (hk : k < ((numR rs).map (·.1)).length), ((numR rs).map (·.1))[k] = (k : Int) := fun k hk => by
    have e : ((numR rs).map (·.1))[k]? = some ((numR rs).map (·.1))[k] := List.getElem?_eq_getElem hk
    rw [List.getElem?_map, numR_get] at e
    cases er : rs[k]? with
    | none => rw [er] at e; cases e
    | some q =>
      rw [er] at e
      exact (Option.some.inj e).symm
  rw [g i hi, g j hj]
  omega
theorem first_sh {tops xs : List Int} {σ : Sta} {rs : List Rl} (f : FsI tops xs σ rs) (l60 : rs.length ≤ 60) (ok : ∀ q ∈ rs, q.1.1 < xs.length ∧ q.2.1 < xs.length) : ShOk σ ∧ ∀ r ∈ σ.rules, cntAt σ r.2.1.1 r.1 = frC r.2 xs ∧ cntAt σ r.2.2.1 r.1 = frC r.2 xs := by
  have hold : ∀ (i : Nat) q, rs[i]? = some q → ∀ t, t ∈ thsOf q → ∃ h, σ.hands[t]? = some h ∧ look h.rows (i : Int) = some (q, frC q xs) := fun i q e t ht => by
    have o := ok q (List.mem_of_getElem? e)
    have tl : t < σ.hands.length := by
      rw [f.hn]
      rcases (ths_mem q t).mp ht with z | z <;> omega
    have et : σ.hands[t]? = some σ.hands[t] := List.getElem?_eq_getElem tl
    exact ⟨_, et, (f.hs t _ et).2.2.2.1 i q e ht⟩
  have each : ∀ r ∈ σ.rules, ∃ i : Nat, rs[i]? = some r.2 ∧ r.1 = (i : Int) := fun r hr => by
    rw [f.rules] at hr
    obtain ⟨i, e⟩ := List.getElem?_of_mem hr
    rw [numR_get] at e
    obtain ⟨q, eq, rfl⟩ := Option.map_eq_some_iff.mp e
    exact ⟨i, eq, rfl⟩
  refine ⟨⟨⟨by rw [f.rules]; exact numR_rising rs, by rw [f.rules, numR_len]; exact l60⟩, fun r hr _ => ?_⟩, fun r hr => ?_⟩
  · obtain ⟨i, e, ei⟩ := each r hr
    obtain ⟨h1, a1, b1⟩ := hold i r.2 e r.2.1.1 ((ths_mem _ _).mpr (.inl rfl))
    obtain ⟨h2, a2, b2⟩ := hold i r.2 e r.2.2.1 ((ths_mem _ _).mpr (.inr rfl))
    exact ⟨⟨h1, _, a1, by rw [ei]; exact b1⟩, ⟨h2, _, a2, by rw [ei]; exact b2⟩⟩
  · obtain ⟨i, e, ei⟩ := each r hr
    obtain ⟨h1, a1, b1⟩ := hold i r.2 e r.2.1.1 ((ths_mem _ _).mpr (.inl rfl))
    obtain ⟨h2, a2, b2⟩ := hold i r.2 e r.2.2.1 ((ths_mem _ _).mpr (.inr rfl))
    exact ⟨Holds.cnt (r := r) a1 (by rw [ei]; exact b1), Holds.cnt (r := r) a2 (by rw [ei]; exact b2)⟩
theorem first_lks {tops xs : List Int} {σ : Sta} {rs : List Rl} (f : FsI tops xs σ rs) {ys : List (Nat × Int)} (l : LksL σ.hands ys) : ys = [] := by
  have all : ∀ h ∈ σ.hands, h.goal = h.place := fun h hh => by
    obtain ⟨j, e⟩ := List.getElem?_of_mem hh
    have := (f.hs j h e).2.2.1
    unfold Hd.goal
    rw [this]
  generalize σ.hands = hs at l all
  induction l with
  | nil => rfl
  | snoc l k ih =>
    rename_i hs rs h ys
    rw [ih fun g hg => all g (List.mem_append_left _ hg)]
    rcases k with ⟨_, rfl⟩ | ⟨ne, _⟩
    · rfl
    · exact absurd (all h (List.mem_append_right _ (List.mem_singleton.mpr rfl))) ne
end K66

set_option Elab.async false
set_option linter.all false
set_option maxRecDepth 100000
namespace NB
open PySem PySem.Spec PyProof.Rows L2
section
variable {X : Cx}
/-- what stands at the keys of a dict of tuples of whole numbers -/
def KeyInts (ks : List (List Key)) (ns : List (List Int)) : Prop := ks = ns.map fun n => n.map Sum.inl
theorem kv_ints (n : List Int) : (n.map (Sum.inl : Int → Key)).map kV = n.map V.int := by
  rw [List.map_map]
  rfl
/-- sorted(d), d a dict of fewer than 64 tuples of whole numbers -/
def rSortD (d : Nat) (B : Int) : List V → Hp → VK → Prop := fun vs H Q => ∃ (a : Addr) (kvs : List (List Key × V)) (ns : List (List Int)), vs = [V.ref a] ∧ H a = some (.dT kvs) ∧
  kvs.map (·.1) = (ns.map fun n => n.map Sum.inl) ∧ ns.length < 64 ∧ (∀ n ∈ ns, n.length = d ∧ TS.Bd B n) ∧
  ∀ (L : List (Addr × List Int)) (p : Addr), (L.map (·.2)).Perm ns → (∀ z ∈ L, H z.1 = some (.tup (z.2.map V.int))) → L.Pairwise (fun y z => TS.code B y.2 ≤ TS.code B z.2) → H p = none → Q (.ref p) (upd H p (.lst (L.map fun z => V.ref z.1)))
theorem paired_at {α β : Type} {F : α → β → Prop} : ∀ {l₁ : List α} {l₂ : List β}, Paired F l₁ l₂ → ∀ (j : Nat) (x : α) (y : β), l₁[j]? = some x → l₂[j]? = some y → F x y
  | _, _, .nil, j, x, y, h, _ => by simp at h
  | _, _, .cons h t, 0, x, y, h1, h2 => by
    cases h1
    cases h2
    exact h
  | _, _, .cons h t, j + 1, x, y, h1, h2 => paired_at t j x y (by simpa using h1) (by simpa using h2)
/-- values that are addresses of tuples, put in another order -/
theorem back_refs {H : Hp} : ∀ {vs : List Value} {L : List (Addr × List Int)}, vs.Perm (L.map fun z => Value.ref z.1) → ∃ L' : List (Addr × List Int), L'.Perm L ∧ vs = L'.map fun z => Value.ref z.1 := fun {vs L} h => by
  have main : ∀ {us vs : List Value}, us.Perm vs → ∀ L : List (Addr × List Int), us = (L.map fun z => Value.ref z.1) → ∃ L' : List (Addr × List Int), L'.Perm L ∧ vs = L'.map fun z => Value.ref z.1 := by
    intro us vs h
    induction h with
    | nil => exact fun L e => ⟨L, .refl _, e⟩
    | cons x p ih =>
      intro L e
      cases L with
      | nil => cases e
      | cons z L =>
        simp only [List.map_cons, List.cons.injEq] at e
        obtain ⟨L', p', e'⟩ := ih L e.2
        exact ⟨z :: L', .cons _ p', by rw [e', e.1, List.map_cons]⟩
    | swap x y l =>
      intro L e
      match L, e with
      | z1 :: z2 :: L, e =>
        simp only [List.map_cons, List.cons.injEq] at e
        exact ⟨z2 :: z1 :: L, .swap _ _ _, by rw [e.1, e.2.1, e.2.2]; rfl⟩
    | trans p q ih1 ih2 =>
      intro L e
      obtain ⟨L1, p1, e1⟩ := ih1 L e
      obtain ⟨L2', p2, e2⟩ := ih2 L1 e1
      exact ⟨L2', p2.trans p1, e2⟩
  exact main h.symm L rfl
theorem sortD (hc : X.calm = true) {d : Nat} {B : Int} (hd1 : 1 ≤ d) : CallR X (.builtin "sorted") (rSortD d B) := by
  intro pins s σ H vs us Q I r h
  obtain ⟨a, kvs, ns, rfl, ha, hkeys, h64, hbd, q⟩ := h
  obtain ⟨u, rfl, rx⟩ := r.one
  cases rx
  obtain ⟨z, lo, ks, pr, o, es, ep, ho, hx, hdt, hen, hnd⟩ := (show ObjOk X.prog X.w H s.heap a (.dT kvs) from I.hok a _ ha)
  have l1 : es.size = ks.length := size_of_entries hen
  have l2 : kvs.length = ks.length := Paired.length pr
  have l3 : kvs.length = ns.length := by
    have e := congrArg List.length hkeys
    rwa [List.length_map, List.length_map] at e
  have few : es.size ≤ sizeLine := by rw [l1, ← l2, l3, sizeLine_eq]; omega
  refine Calls.call_function_entry PyProof.Rows.kind_sorted PyProof.Rows.plain_sorted PyProof.Rows.entry_sorted (PyProof.Rows.args_sorted1 _) ?_
  unfold Builtin.«sorted»
  refine wpAny_bind (m := checkCount "sorted" 1 1 _) (wpAny_pure ?_)
  refine wpAny_bind (PySem.W.kdu_collect (A := X.A.in1) (kdl_raw lo hx hdt) (I.ok.hd hc) ho few fun h1 tk acc kp it => ?_)
  -- the collected keys are the addresses of the key tuples
  have hal : acc.toList.length = ks.length := by rw [Array.length_toList, it.1]; exact l1
  let L0 : List (Addr × List Int) := (ks.map fun x => x.2.1).zip ns
  have lz : L0.length = ks.length := by
    show ((ks.map fun x => x.2.1).zip ns).length = _
    rw [List.length_zip, List.length_map]
    omega
  have eacc : acc.toList = L0.map fun y => Value.ref y.1 := by
    apply List.ext_getElem?
    intro j
    rw [List.getElem?_map]
    cases hj : acc.toList[j]? with
    | none =>
      have h0 := List.getElem?_eq_none_iff.mp hj
      rw [List.getElem?_eq_none (by omega)]
      rfl
    | some v =>
      obtain ⟨en, hen', hv⟩ := it.2 j v (by rw [← Array.getElem?_toList]; exact hj)
      have qe := entry_at hen j
      rw [hen'] at qe
      have hjl : j < ks.length := by
        have := (List.getElem?_eq_some_iff.mp hj).1
        omega
      have hjn : j < ns.length := by omega
      rw [List.getElem?_eq_getElem hjl] at qe
      have e2 : en = entryOfKey (tupleKind (mixKind X.prog X.w)) ks[j] := Option.some.inj qe
      have ez : L0[j]? = some (ks[j].2.1, ns[j]) := by
        show ((ks.map fun x => x.2.1).zip ns)[j]? = _
        exact List.getElem?_zip_eq_some.mpr ⟨by rw [List.getElem?_map, List.getElem?_eq_getElem hjl]; rfl, List.getElem?_eq_getElem hjn⟩
      rw [hv, e2, ez]
      rfl
  have hL2 : L0.map (·.2) = ns := List.map_snd_zip (by rw [List.length_map]; omega)
  have hT : ∀ y ∈ L0, H y.1 = some (.tup (y.2.map V.int)) ∧ y.2.length = d ∧ TS.Bd B y.2 := fun y hy => by
    obtain ⟨j, hj, ej⟩ := List.getElem_of_mem hy
    have hjk : j < ks.length := by omega
    have hjn : j < ns.length := by omega
    have hjv : j < kvs.length := by omega
    have hy' : L0[j]? = some (ks[j].2.1, ns[j]) := by
      show ((ks.map fun x => x.2.1).zip ns)[j]? = _
      exact List.getElem?_zip_eq_some.mpr ⟨by rw [List.getElem?_map, List.getElem?_eq_getElem hjk]; rfl, List.getElem?_eq_getElem hjn⟩
    rw [List.getElem?_eq_getElem hj, ej] at hy'
    have ey : y = (ks[j].2.1, ns[j]) := Option.some.inj hy'
    have kk := paired_at (isKeys_of pr) j kvs[j] ks[j].2.1 (List.getElem?_eq_getElem hjv) (by rw [List.getElem?_map, List.getElem?_eq_getElem hjk]; rfl)
    have ek : kvs[j].1 = ns[j].map Sum.inl := by
      have e := congrArg (fun l => l[j]?) hkeys
      simp only [List.getElem?_map, List.getElem?_eq_getElem hjv, List.getElem?_eq_getElem hjn, Option.map_some, Option.some.injEq] at e
      exact e
    rw [ek, kv_ints] at kk
    rw [ey]
    exact ⟨kk, hbd _ (List.getElem_mem hjn)⟩
  have I1 : Inv X pins σ H { s with heap := h1, toks := tk } := I.kept kp
  have raw : ∀ y ∈ L0, TS.TupInts h1 (.ref y.1) y.2 := fun y hy => tupI_raw I1 (.inl (.inl (hT y hy).1))
  refine wpAny_bind (wpAny_newList ?_ (by rw [hal, ← l2, l3, sizeLine_eq]; omega))
  have hoL : (h1.push (seqObj "list" acc.toList.toArray 0)).get? h1.objs.size = some (seqObj "list" acc.toList.toArray 0) := Heap.get?_push_size _ rfl
  have keep : ∀ b o', h1.get? b = some o' → o'.cls = .type "tuple" → (h1.push (seqObj "list" acc.toList.toArray 0)).get? b = some o' := fun b o' e _ => Heap.get?_push_of_some _ e
  have oks : TS.TupsOk h1 d B acc.toList := fun v hv => by
    rw [eacc] at hv
    obtain ⟨y, hy, rfl⟩ := List.mem_map.mp hv
    exact ⟨y.2, raw y hy, (hT y hy).2.1, (hT y hy).2.2⟩
  show wpAny _ _ _ _ _ { s with heap := h1.push (seqObj "list" acc.toList.toArray 0), toks := tk }
  refine wpAny_bind (wpAny_holding (wpAny_call_entry PyProof.Rows.slot_list_sort ⟨_, hoL, rfl⟩ PyProof.Rows.entry_list_sort
    (TS.sort_tups (s := { s with heap := h1.push (seqObj "list" acc.toList.toArray 0), toks := tk }) hoL (by rw [hal]; omega) hd1 (oks.keeps keep) (fun v => TS.code B (TS.intsOf h1 v)) (fun v hv n t => ?_) fun out g1 g2 => ⟨_, rfl, ?_⟩) (PyProof.Rows.args_list_sort _)))
  · obtain ⟨n0, t0, _⟩ := oks v hv
    have e : n = n0 := t.ints.symm.trans (t0.keeps keep).ints
    rw [e]
    show TS.code B (TS.intsOf h1 v) = TS.code B n0
    rw [t0.ints]
  rw [eacc] at g1
  obtain ⟨L', pL, eo⟩ := back_refs (H := H) g1
  have hm : ∀ y ∈ L', y ∈ L0 := fun y hy => pL.mem_iff.mp hy
  obtain ⟨e', he'⟩ := PyProof.Rows.sortedHeap_at (vs := acc.toList) (out := out) hoL
  have hlen : (L'.map fun y => V.ref y.1).length ≤ sizeLine := by
    rw [List.length_map, pL.length_eq, lz, ← l2, l3, sizeLine_eq]
    omega
  have hv' : Vals (L'.map fun y => V.ref y.1) out.toList := by rw [eo]; exact vals_of_refs L'
  refine wpAny_pure ⟨_, rfl, .ref h1.objs.size, upd H h1.objs.size (.lst (L'.map fun y => V.ref y.1)), I1.laid (t' := tk) (fun b u e => ?_) (Nat.le_refl _)
    (show ObjOk X.prog X.w _ _ _ (.lst (L'.map fun y => V.ref y.1)) from ⟨hlen, out.toList, e', hv', by rw [Array.toArray_toList]; exact he'⟩), rfl, q L' _ ?_ (fun y hy => (hT y (hm y hy)).1) ?_ (I1.hok.fresh (Nat.le_refl _))⟩
  · have hb : b < h1.objs.size := Heap.lt_size e
    rw [PyProof.Rows.sortedHeap_old (Nat.ne_of_lt hb) (by rw [size_push']; exact Nat.lt_succ_of_lt hb)]
    exact Heap.get?_push_of_some _ e
  · have p2 := pL.map (·.2)
    rw [hL2] at p2
    exact p2
  · rw [eo, List.pairwise_map] at g2
    refine List.Pairwise.imp_of_mem (fun {y z} hy hz h => ?_) g2
    have h' : TS.code B (TS.intsOf h1 (.ref y.1)) ≤ TS.code B (TS.intsOf h1 (.ref z.1)) := h
    rw [(raw y (hm y hy)).ints, (raw z (hm z hz)).ints] at h'
    exact h'
end
end NB

set_option Elab.async false
set_option linter.all false
set_option maxRecDepth 100000
namespace NB
open PySem PySem.Spec PyProof.Rows L2
section
variable {X : Cx}
/-- the whole numbers a, a - 1, .. down to above b -/
def dnV (a b : Int) : List V := (List.range (a - b).toNat).map fun i => V.int (a - (i : Nat))
/-- list(range(a, b, c)), c being -1 -/
def tLstDn (ta : TA) : TE := fun σ H Q => ta σ H fun vs H1 => ∃ a b : Int, vs = [.int a, .int b, .int (-1)] ∧ (-(2 ^ 62) ≤ a ∧ a < 2 ^ 62 ∧ -(2 ^ 62) ≤ b ∧ b < 2 ^ 62 ∧ (a - b).toNat ≤ 2 ^ 24) ∧ ∀ q, H1 q = none → Q (.ref q) (upd H1 q (.lst (dnV a b)))
theorem pe_listDn {x y z : Expr} {ta : TA} {p p' pos pos' : Pos} (hc : X.calm = true) (hl : Gl X "list") (ml : X.mg "list" = none) (hg : Gl X "range") (hm : X.mg "range" = none) (ha : PA X [x, y, z] ta)
    (hs : starEach [x, y, z] X.env = (false, eval x X.env) :: starEach [y, z] X.env := by rfl) (hpl : (backTo pos (starEach [y, z] X.env)).any (·.1) = false := by rfl)
    (na : starEach [Expr.Call (.Name "range" p) [x, y, z] [] pos] X.env = (false, eval (.Call (.Name "range" p) [x, y, z] [] pos) X.env) :: starEach [] X.env := by rfl) :
    PE X (.Call (.Name "list" p') [.Call (.Name "range" p) [x, y, z] [] pos] [] pos') (tLstDn ta) := by
  refine ⟨fun pins s σ H Q I h => ?_⟩
  refine Call_ (ld_blt I hl ml boot_list (PyProof.Rows.callWith_type1 (args_cons ?_ na) na))
  refine Call_ (ld_blt I hg hm boot_range (PyProof.Rows.callWith_type1 (thn (ha.run pos pins s σ H _ I h) fun us s1 ⟨vs, H1, I1, r1, q1⟩ => ?_) hs hpl))
  obtain ⟨i, j, rfl, ⟨b1, b2, b3, b4, b5⟩, q⟩ := q1
  cases r1 with
  | cons r rr =>
    cases rr with
    | cons r' rr =>
      cases rr with
      | cons r'' rr =>
        cases rr
        obtain ⟨t, rfl⟩ := r
        obtain ⟨t', rfl⟩ := r'
        obtain ⟨t'', rfl⟩ := r''
        have C := RgC.neg b1 b2 b3 b4
        refine call_range_3 C.1 ?_ (.inl (PyProof.noPylong_small C.2.1))
        have I2 : Inv X pins σ H1 { s1 with heap := s1.heap.push { cls := .type "range", data := .fields #[.int i t, .int j t', .int (-1) t''] } } := I1.kept (t' := s1.toks) fun b o e => Heap.get?_push_of_some _ e
        refine args_nil ?_
        refine call_list_range (n := (i - j).toNat) (I2.ok.hd hc) (IsRange.new ..) C.2.2.1 C.2.2.2 b5 fun h2 tk acc c' hk e' hi => ?_
        have el : acc.toList.length = (i - j).toNat := by rw [Array.length_toList]; exact hi.1
        have hv : Vals (dnV i j) acc.toList := by
          unfold dnV
          rw [← el]
          refine vals_of_get acc.toList _ fun k u hk => ?_
          obtain ⟨tt, rfl⟩ := hi.2 k u (by rw [← hk, Array.getElem?_toList])
          exact ⟨tt, by congr 1; omega⟩
        refine ⟨.ref _, upd H1 _ (.lst (dnV i j)), I2.laid hk (Nat.le_refl _) (show ObjOk X.prog X.w _ _ _ (.lst (dnV i j)) from ⟨?_, acc.toList, c', hv, ?_⟩), rfl, q _ (I2.hok.fresh (Nat.le_refl _))⟩
        · unfold dnV
          rw [List.length_map, List.length_range, sizeLine_eq]
          omega
        · rw [Array.toArray_toList]
          exact e'
end
end NB

set_option Elab.async false
set_option linter.all false
set_option maxRecDepth 100000
namespace NB
open PySem PySem.Spec PyProof.Rows L2
section
variable {X : Cx}
/-- x in t, x not in t, t a tuple of data of any depth -/
def rInT (K : PySem.W.Frag) (neg : Bool) : R2 := fun x y H Q => ∃ d ds, Dp K H x d ∧ Dp K H y (.tuple ds) ∧ SeqAt.shaped d = true ∧ SeqAt.shaped (.tuple ds) = true ∧ Q (.bl (if neg then !ds.any fun z => PyData.eqv z d else ds.any fun z => PyData.eqv z d)) H
theorem inT (hu : X.A.units + 65 < cLine) : OpR X (compareOp .In) (rInT X.K false) := by
  intro pins s σ H x y v u Q I rx ry h
  obtain ⟨d, ds, h1, h2, sh1, sh2, q⟩ := h
  obtain ⟨as, r1⟩ := Dp.reads I d x v h1 rx
  obtain ⟨bs, r2⟩ := Dp.reads I (.tuple ds) y u h2 ry
  exact SeqAt.in_tuple_reads r2 r1 (SeqAt.canLay_of_shaped sh2) (SeqAt.canLay_of_shaped sh1) (room_in_shaped sh1 hu) ⟨.bl _, H, I, rfl, q⟩
theorem notInT (hu : X.A.units + 65 < cLine) : OpR X (compareOp .NotIn) (rInT X.K true) := by
  intro pins s σ H x y v u Q I rx ry h
  obtain ⟨d, ds, h1, h2, sh1, sh2, q⟩ := h
  obtain ⟨as, r1⟩ := Dp.reads I d x v h1 rx
  obtain ⟨bs, r2⟩ := Dp.reads I (.tuple ds) y u h2 ry
  exact SeqAt.notIn_tuple_reads r2 r1 (SeqAt.canLay_of_shaped sh2) (SeqAt.canLay_of_shaped sh1) (room_in_shaped sh1 hu) ⟨.bl _, H, I, rfl, q⟩
end
end NB

set_option Elab.async false
set_option linter.all false
set_option maxRecDepth 100000
namespace K66
open PySem PySem.Spec PyProof.Rows L2 NB

/-! ### the law's own draws -/
abbrev aSideIn : Stmt := topS 64
abbrev aRules : Stmt := topS 65
theorem scSideIn : FnScope ["_law_pot_here", "_law_tops_here", "_law_standing_here", "_law_thing"] ["_law_pot_here", "_law_tops_here", "_law_standing_here"] (defScope aSideIn) := ⟨rfl, rfl, rfl, by decide +kernel, rfl, by decide +kernel, by decide +kernel⟩
theorem scRulesL : FnScope ["_law_pot_here", "_law_tops_here", "_law_one", "_law_two", "_law_many", "_law_found", "_law_turn", "_law_both"] ["_law_pot_here", "_law_tops_here", "_law_one", "_law_two", "_law_many"] (defScope aRules) := ⟨rfl, rfl, rfl, by decide +kernel, rfl, by decide +kernel, by decide +kernel⟩

/-- a standing of the plan's tops -/
structure Std (tops : List Int) (H : Hp) (p : Addr) (st : List Int) : Prop where
  at' : H p = some (.tup (st.map V.int))
  len : st.length = tops.length
  pl : Pl st
  le : Le st tops
theorem Std.keep {tops : List Int} {H H' : Hp} {p : Addr} {st : List Int} (h : Std tops H p st) (k : Keep H H') : Std tops H' p st := ⟨k.tup h.at', h.len, h.pl, h.le⟩
abbrev refs (ps : List (Addr × List Int)) : List V := ps.map fun q => V.ref q.1
theorem words_mem {x : V} (h : x ∈ [V.str "from", V.str "to"]) : ∃ b, x = .str (word b) := by
  simp only [List.mem_cons, List.not_mem_nil, or_false] at h
  rcases h with e | e
  · exact ⟨true, e⟩
  · exact ⟨false, e⟩
theorem len_bd {tops : List Int} (l12 : tops.length ≤ 12) : (tops.length : Int) < 2 ^ 200 := Int.lt_of_le_of_lt (show (tops.length : Int) ≤ 12 by omega) (by decide)
theorem top_bd {t : Int} (h : t < 10 ^ 30) : t + 1 < 2 ^ 200 := Int.lt_of_le_of_lt (show t + 1 ≤ 10 ^ 30 by omega) (by decide)
theorem inB_from {st : List Int} {n : Nat} {pl : Int} (h : n < st.length) (l : pl ≤ st[n]) : inB st (n, true, pl) = true := by
  unfold inB
  simp [List.getElem?_eq_getElem h, l]
theorem inB_to {st : List Int} {n : Nat} {pl : Int} (h : n < st.length) (l : st[n] ≤ pl) : inB st (n, false, pl) = true := by
  unfold inB
  simp [List.getElem?_eq_getElem h, l]
theorem fit_of {tops : List Int} {q : Rl} (h : RuleOk tops q) {xs : List Int} (l : xs.length = tops.length) : Fit xs q := by
  obtain ⟨⟨t1, e1, _⟩, ⟨t2, e2, _⟩⟩ := h
  exact ⟨by rw [l]; exact (List.getElem?_eq_some_iff.mp e1).1, by rw [l]; exact (List.getElem?_eq_some_iff.mp e2).1⟩
/-- rules one by one -/
theorem rules_snoc {H H' : Hp} {as : List Addr} {rs : List Rl} {r : Addr} {q : Rl} (la : as.length = rs.length) (h : ∀ (i : Nat) (r : Addr) (q : Rl), as[i]? = some r → rs[i]? = some q → RuleAt H r q) (k : Keep H H') (e : RuleAt H' r q) :
    ∀ (i : Nat) (r' : Addr) (q' : Rl), (as ++ [r])[i]? = some r' → (rs ++ [q])[i]? = some q' → RuleAt H' r' q' := fun i r' q' h1 h2 => by
  rcases Nat.lt_or_ge i as.length with c | c
  · rw [List.getElem?_append_left c] at h1
    rw [List.getElem?_append_left (by omega)] at h2
    exact (h i r' q' h1 h2).keep k
  · rw [List.getElem?_append_right c] at h1
    rw [List.getElem?_append_right (by omega)] at h2
    have e0 : i - as.length = 0 := by
      rcases Nat.eq_zero_or_pos (i - as.length) with z | z
      · exact z
      · rw [List.getElem?_eq_none (by simp only [List.length_cons, List.length_nil]; omega)] at h1
        cases h1
    have e1 : i - rs.length = 0 := by omega
    rw [e0] at h1
    rw [e1] at h2
    cases h1
    cases h2
    exact e
theorem at_int {xs : List Int} {n : Nat} (h : n < xs.length) : atI (xs.map V.int) (n : Int) = some (.int xs[n]) := atI_nat (by rw [List.getElem?_map, List.getElem?_eq_getElem h]; rfl)
theorem ixN_nat {m n : Nat} (h : n < m) : ixN m (n : Int) = some n := by
  unfold ixN
  rw [if_pos (by omega), if_pos (by omega)]
  rfl
theorem set_ok {tops st : List Int} {n : Nat} {v : Int} (l : st.length = tops.length) (p : Pl st) (le : Le st tops) (hn : n < tops.length) (v0 : 0 ≤ v) (v1 : v ≤ tops[n]) (v2 : tops[n] < 10 ^ 30) : (st.set n v).length = tops.length ∧ Pl (st.set n v) ∧ Le (st.set n v) tops := by
  refine ⟨by rw [List.length_set, l], fun x hx => ?_, fun i x t h1 h2 => ?_⟩
  · rcases List.mem_or_eq_of_mem_set hx with h | h
    · exact p x h
    · rw [h]
      exact ⟨v0, by omega⟩
  · by_cases c : n = i
    · subst c
      rw [List.getElem?_set_self (by omega)] at h1
      cases h1
      rw [List.getElem?_eq_getElem hn] at h2
      cases h2
      exact v1
    · rw [List.getElem?_set_ne c] at h1
      exact le i x t h1 h2

section
variable {P : Program} {w : World} {K : PySem.W.Frag} {mg : Str → Option Value} {base : Heap}

def spSideIn : Sp := fun vs H Q _ => ∃ (a t s : Addr) (tops st : List Int) (c : Nat), vs = [.ref a, .ref t, .ref s] ∧ PotAt H a c ∧ H t = some (.tup (tops.map V.int)) ∧ Pl tops ∧ 1 ≤ tops.length ∧ tops.length ≤ 12 ∧ Std tops H s st ∧ c < 900000 ∧
  ∀ H' p sd, But a H H' → PotAt H' a (c + 3) → SideAt H' p sd → SideOk tops sd → inB st sd = true → Q (.ref p) H'
theorem ok_sideIn {f fT : Addr} {fd fdT : FuncData} {k : Nat} (F : Fun K "_law_side_in" "_law_side_in" aSideIn f fd) (T : Kn P w K mg base 1 "_law_take" ["_law_pot_here", "_law_many"] spTake fT fdT) (ml : mg "len" = none) : FnOk P w K mg base CX0 (k + 2) f fd ["_law_pot_here", "_law_tops_here", "_law_standing_here"] spSideIn := by
  refine F.ok scSideIn (fun vs H Q E h => ?_) (fun cdv A outer s H vs Q E hr h => ?_)
  · obtain ⟨a, t, s, tops, st, c, rfl, _⟩ := h
    rfl
  · obtain ⟨a, t, s', tops, st, c, rfl, pa, et, pl, l1, l12, S, hc, q⟩ := h
    refine ⟨_, pss_cons (ps_set (i := 3) scSideIn.nd rfl (.inl rfl) (pe_kn T hr (by omega) (pa_cons (pv 0) (pa_cons (pe_callB call_len_seq (by rfl) ml PySem.boot_len (pa_cons (pv 1) pa_nil)) pa_nil))))
      (pss_cons (ps_if (pt_cmpR op_eq (pe_kn T hr (by omega) (pa_cons (pv 0) (pa_cons pe_int pa_nil))) pe_int (nomark _))
        (pss_one (ps_ret (pe_tup (pa_cons (pv 3) (pa_cons pe_str (pa_cons (pe_kn T hr (by omega) (pa_cons (pv 0) (pa_cons (pe_op op_add (pe_ix ix_tup (pv 2) (pv 3) (fun _ _ => rfl)) pe_int) pa_nil))) pa_nil)))))) pss_nil)
      (pss_one (ps_ret (pe_tup (pa_cons (pv 3) (pa_cons pe_str (pa_cons (pe_op op_add (pe_ix ix_tup (pv 2) (pv 3) (fun _ _ => rfl)) (pe_kn T hr (by omega) (pa_cons (pv 0) (pa_cons (pe_op op_add (pe_op op_sub (pe_ix ix_tup (pv 1) (pv 3) (fun _ _ => rfl)) (pe_ix ix_tup (pv 2) (pv 3) (fun _ _ => rfl))) pe_int) pa_nil)))) pa_nil))))))), ?_⟩
    refine ⟨.ref a, rfl, .ref t, rfl, t, _, rfl, .inr (.inl (.inl et)), a, _, _, rfl, pa, by rw [List.length_map]; omega, by rw [List.length_map]; exact len_bd l12, by omega, fun n H1 b1 p1 n0 n1 => ?_⟩
    rw [List.length_map] at n1
    obtain ⟨n, rfl⟩ : ∃ m : Nat, n = m := ⟨n.toNat, by omega⟩
    have hn : n < tops.length := by omega
    have hs : n < st.length := by rw [S.len]; exact hn
    have ht := pl tops[n] (List.getElem_mem hn)
    have hv := S.pl st[n] (List.getElem_mem hs)
    have hle := S.le n _ _ (List.getElem?_eq_getElem hs) (List.getElem?_eq_getElem hn)
    refine ⟨.ref a, rfl, a, 2, _, rfl, p1, by decide, by decide, by omega, fun z H2 b2 p2 z0 z1 => ⟨rfl, _, rfl, ite2 (fun _ => ?_) (fun _ => ?_)⟩⟩
    · have k2 := (Keep.but b1 pa).trans (Keep.but b2 p1)
      refine ⟨.int n, rfl, .ref a, rfl, .ref s', rfl, .int n, rfl, s', _, n, _, rfl, rfl, .inl (.inl (k2.tup S.at')), at_int hs, _, 1, rfl, rfl, a, _, _, rfl, p2, by omega, top_bd hv.2, by omega, fun d H3 b3 p3 d0 d1 => ?_⟩
      refine ⟨(show 3 ≤ sizeLine by decide), fun p np => ?_⟩
      have npa : p ≠ a := p3.ne np
      have bA := (b1.trans b2).trans b3
      exact q _ p (n, true, d) (but_new bA (bA.free npa np)) (pot_upd (p3.mono (by omega)) npa) upd_same ⟨tops[n], List.getElem?_eq_getElem hn, d0, by show d ≤ tops[n]; omega⟩ (inB_from hs (by omega))
    · have k2 := (Keep.but b1 pa).trans (Keep.but b2 p1)
      refine ⟨.int n, rfl, .ref s', rfl, .int n, rfl, s', _, n, _, rfl, rfl, .inl (.inl (k2.tup S.at')), at_int hs, .ref a, rfl, .ref t, rfl, .int n, rfl, t, _, n, _, rfl, rfl, .inl (.inl (k2.tup et)), at_int hn, .ref s', rfl, .int n, rfl, s', _, n, _, rfl, rfl, .inl (.inl (k2.tup S.at')), at_int hs, _, _, rfl, rfl, _, 1, rfl, rfl, a, _, _, rfl, p2, by omega, top_bd (by omega), by omega, fun d H3 b3 p3 d0 d1 => ?_⟩
      refine ⟨_, d, rfl, rfl, (show 3 ≤ sizeLine by decide), fun p np => ?_⟩
      have npa : p ≠ a := p3.ne np
      have bA := (b1.trans b2).trans b3
      exact q _ p (n, false, st[n] + d) (but_new bA (bA.free npa np)) (pot_upd (p3.mono (by omega)) npa) upd_same ⟨tops[n], List.getElem?_eq_getElem hn, by show 0 ≤ st[n] + d; omega, by show st[n] + d ≤ tops[n]; omega⟩ (inB_to hs (by omega))

def spRulesL : Sp := fun vs H Q _ => ∃ (a t o1 o2 : Addr) (tops st1 st2 : List Int) (m : Int) (c : Nat), vs = [.ref a, .ref t, .ref o1, .ref o2, .int m] ∧ PotAt H a c ∧ H t = some (.tup (tops.map V.int)) ∧ Pl tops ∧ 1 ≤ tops.length ∧ tops.length ≤ 12 ∧ Std tops H o1 st1 ∧ Std tops H o2 st2 ∧ 0 ≤ m ∧ m ≤ 16 ∧ c < 800000 ∧
  ∀ H' R rs, But a H H' → PotAt H' a (c + 112) → RulesAt H' R rs → (rs.length : Int) ≤ m → (∀ q ∈ rs, RuleOk tops q ∧ kept st1 q = true ∧ kept st2 q = true) → Q (.ref R) H'
theorem ok_rulesL {f fT fS : Addr} {fd fdT fdS : FuncData} {k : Nat} (F : Fun K "_law_rules" "_law_rules" aRules f fd) (T : Kn P w K mg base 1 "_law_take" ["_law_pot_here", "_law_many"] spTake fT fdT)
    (S : Kn P w K mg base 2 "_law_side_in" ["_law_pot_here", "_law_tops_here", "_law_standing_here"] spSideIn fS fdS) (mr : mg "range" = none) (mt : mg "tuple" = none) : FnOk P w K mg base CX0 (k + 3) f fd ["_law_pot_here", "_law_tops_here", "_law_one", "_law_two", "_law_many"] spRulesL := by
  refine F.ok scRulesL (fun vs H Q E h => ?_) (fun cdv A outer s H vs Q E hr h => ?_)
  · obtain ⟨a, t, o1, o2, tops, st1, st2, m, c, rfl, _⟩ := h
    rfl
  · obtain ⟨a, t, o1, o2, tops, st1, st2, m, c, rfl, pa, et, pl, l1, l12, S1, S2, m0, m16, hc, q⟩ := h
    refine ⟨_, pss_cons (ps_set (i := 5) scRulesL.nd rfl (.inl rfl) (pe_lst pa_nil))
      (pss_cons (ps_for PassesOwn.never rfl (pi_range1 (by rfl) mr (pa_cons (pv 4) pa_nil)) (pg_name (i := 6) scRulesL.nd rfl (.inl rfl))
        (pss_cons (ps_set (i := 7) scRulesL.nd rfl (.inl rfl) (pe_tup (pa_cons (pe_kn S hr (by omega) (pa_cons (pv 0) (pa_cons (pv 1) (pa_cons (pv 2) pa_nil)))) (pa_cons (pe_kn S hr (by omega) (pa_cons (pv 0) (pa_cons (pv 1) (pa_cons (pv 3) pa_nil)))) pa_nil))))
        (pss_one (ps_expr (pe_bm PySem.F.plainAttrs_list PySem.F.slot_list_append PySem.F.type_list_append mt_append (pv 5) (pa_cons (pe_ifExp (pt_cmpR op_eq (pe_kn T hr (by omega) (pa_cons (pv 0) (pa_cons pe_int pa_nil))) pe_int (nomark _)) (pe_revT (pv 7)) (pv 7)) pa_nil))))))
      (pss_one (ps_ret (pe_callTy call_tuple_of (by rfl) mt (by decide +kernel) (pa_cons (pv 5) pa_nil))))), ?_⟩
    refine ⟨Nat.zero_le _, fun l nl => ?_⟩
    have nla : l ≠ a := pa.ne nl
    refine ⟨.int m, rfl, m, rfl, by omega, by omega, for_it walk_range (fun i σ H' => (∃ u v, σ = [some (.ref a), some (.ref t), some (.ref o1), some (.ref o2), some (.int m), some (.ref l), u, v]) ∧ But a H H' ∧ PotAt H' a (c + 7 * i) ∧ ∃ (as : List Addr) (rs : List Rl), H' l = some (.lst (as.map V.ref)) ∧ as.length = i ∧ as.length = rs.length ∧ (∀ (j : Nat) (r : Addr) (q : Rl), as[j]? = some r → rs[j]? = some q → RuleAt H' r q) ∧ ∀ q ∈ rs, RuleOk tops q ∧ kept st1 q = true ∧ kept st2 q = true)
      ⟨⟨none, none, rfl⟩, but_new (fun _ _ _ e => e) nl, pot_upd pa nla, [], [], upd_same, rfl, rfl, fun j r q h => by simp at h, fun _ h => absurd h List.not_mem_nil⟩ (fun _ _ _ _ _ => trivial) (fun i v σ H2 H3 hi p y => ?_) (fun σ H2 p => ?_)⟩
    · obtain ⟨⟨u, v', rfl⟩, b2, p2, as, rs, el2, li, la, ra, rok⟩ := p
      obtain ⟨rfl, rfl⟩ := y
      have i16 : i < 16 := by omega
      have k2 := Keep.but b2 pa
      refine ⟨.ref a, rfl, .ref t, rfl, .ref o1, rfl, a, t, o1, tops, st1, _, rfl, p2, k2.tup et, pl, l1, l12, S1.keep k2, by omega, fun H4 x1 s1 b4 p4 e1 ok1 in1 => ?_⟩
      have k4 := k2.trans (Keep.but b4 p2)
      refine ⟨.ref a, rfl, .ref t, rfl, .ref o2, rfl, a, t, o2, tops, st2, _, rfl, p4, k4.tup et, pl, l1, l12, S2.keep k4, by omega, fun H5 x2 s2 b5 p5 e2 ok2 in2 => ?_⟩
      refine ⟨(show 2 ≤ sizeLine by decide), fun g ng => ?_⟩
      have nga : g ≠ a := p5.ne ng
      have p6 := pot_upd (o := .tup [.ref x1, .ref x2]) p5 nga
      have e1' := e1.keep (Keep.but b5 p4)
      have b06 : But a H3 (upd H5 g (.tup [.ref x1, .ref x2])) := (b4.trans b5).trans (But.of (same_new ng))
      have k56 : Keep H5 (upd H5 g (.tup [.ref x1, .ref x2])) := .same (same_new ng)
      have e1'' := e1'.keep k56
      have e2'' := e2.keep k56
      have eg6 : (upd H5 g (.tup [.ref x1, .ref x2])) g = some (.tup [.ref x1, .ref x2]) := upd_same
      generalize (upd H5 g (.tup [.ref x1, .ref x2])) = H6 at p6 b06 e1'' e2'' eg6 ⊢
      have el6 : H6 l = some (.lst (as.map V.ref)) := b06 _ _ nla el2
      refine ⟨.ref l, rfl, .inl ⟨rfl, _, .inl (.inl el6)⟩, .ref a, rfl, a, 2, _, rfl, p6, by decide, by decide, by omega, fun z H7 b7 p7 z0 z1 => ⟨rfl, _, rfl, ite2 (fun _ => ?_) (fun _ => ?_)⟩⟩
      · have k7 := Keep.but b7 p6
        have b37 := b06.trans b7
        refine ⟨.ref g, rfl, g, _, rfl, .inl (.inl (k7.tup eg6)), fun r nr => ?_⟩
        have nra : r ≠ a := p7.ne nr
        have el7 : H7 l = some (.lst (as.map V.ref)) := b37 _ _ nla el2
        have nlr : l ≠ r := ne_of_none el7 nr
        have el8 : (upd H7 r (.tup [V.ref x1, V.ref x2].reverse)) l = some (.lst (as.map V.ref)) := (upd_ne nlr).trans el7
        have bH := (b2.trans b37)
        refine ⟨l, _, _, rfl, rfl, el8, by rw [List.length_map]; exact small1000 (by omega), ⟨_, _, rfl⟩, but_new (but_new bH (bH.free nra nr)) nl, pot_upd (pot_upd (p7.mono (by omega)) nra) nla, as ++ [r], rs ++ [(s2, s1)], ?_, by rw [List.length_append, li]; rfl, by rw [List.length_append, List.length_append, la]; rfl, ?_, fun y hy => ?_⟩
        · rw [upd_same, List.map_append]
          rfl
        · have k78 : Keep H7 (upd (upd H7 r (.tup [V.ref x1, V.ref x2].reverse)) l (.lst (as.map V.ref ++ [.ref r]))) := (Keep.same (same_new nr)).trans (.upd el8)
          refine rules_snoc la ra (((Keep.but b37 p2)).trans k78) ⟨x2, x1, ?_, (e2''.keep k7).keep k78, (e1''.keep k7).keep k78⟩
          rw [upd_ne nlr.symm, upd_same]
          rfl
        · rcases List.mem_append.mp hy with h | h
          · exact rok y h
          · rw [List.mem_singleton.mp h]
            refine ⟨⟨ok2, ok1⟩, ?_, ?_⟩
            · show (inB st1 s2 || inB st1 s1) = true
              rw [in1, Bool.or_true]
            · show (inB st2 s2 || inB st2 s1) = true
              rw [in2, Bool.true_or]
      · have k7 := Keep.but b7 p6
        have b37 := b06.trans b7
        have el7 : H7 l = some (.lst (as.map V.ref)) := b37 _ _ nla el2
        have bH := (b2.trans b37)
        refine ⟨.ref g, rfl, l, _, _, rfl, rfl, el7, by rw [List.length_map]; exact small1000 (by omega), ⟨_, _, rfl⟩, but_new bH nl, pot_upd (p7.mono (by omega)) nla, as ++ [g], rs ++ [(s1, s2)], ?_, by rw [List.length_append, li]; rfl, by rw [List.length_append, List.length_append, la]; rfl, ?_, fun y hy => ?_⟩
        · rw [upd_same, List.map_append]
          rfl
        · have k78 : Keep H7 (upd H7 l (.lst (as.map V.ref ++ [.ref g]))) := .upd el7
          exact rules_snoc la ra (((Keep.but b37 p2)).trans k78) ⟨x1, x2, (k7.trans k78).tup eg6, (e1''.keep k7).keep k78, (e2''.keep k7).keep k78⟩
        · rcases List.mem_append.mp hy with h | h
          · exact rok y h
          · rw [List.mem_singleton.mp h]
            refine ⟨⟨ok1, ok2⟩, ?_, ?_⟩
            · show (inB st1 s1 || inB st1 s2) = true
              rw [in1, Bool.true_or]
            · show (inB st2 s1 || inB st2 s2) = true
              rw [in2, Bool.or_true]
    · obtain ⟨⟨u, v', rfl⟩, b2, p2, as, rs, el2, li, la, ra, rok⟩ := p
      refine ⟨.ref l, rfl, l, _, rfl, .inl ⟨.inl (.inl el2), fun R nR => ?_⟩⟩
      have nRa : R ≠ a := p2.ne nR
      exact q _ R rs (but_new b2 (b2.free nRa nR)) (pot_upd (p2.mono (by omega)) nRa) ⟨as, upd_same, la, fun j r q h1 h2 => (ra j r q h1 h2).keep (.same (same_new nR))⟩ (by omega) rok

end
end K66

set_option Elab.async false
set_option linter.all false
set_option maxRecDepth 100000
namespace K66
open PySem PySem.Spec PyProof.Rows L2 NB

abbrev aTops : Stmt := topS 66
theorem scTopsL : FnScope ["_law_pot_here", "_law_thing"] ["_law_pot_here"] (defScope aTops) := ⟨rfl, rfl, rfl, by decide +kernel, rfl, by decide +kernel, by decide +kernel⟩
theorem eqv_nilL (xs : List Int) : PyData.eqv (.list (xs.map PyData.int)) (.list []) = decide (xs = []) := by
  have := eqv_ints xs []
  simp only [PyData.eqv]
  exact this
theorem shaped_ints_l (xs : List Int) : SeqAt.shaped (.list (xs.map PyData.int)) = true := by
  unfold SeqAt.shaped
  simp only [PyData.canLay0, lay_ints, PyData.depth, depth_ints, Bool.true_and]
  decide

section
variable {P : Program} {w : World} {K : PySem.W.Frag} {mg : Str → Option Value} {base : Heap}

def Few (xs : List Int) : Prop := ∀ x ∈ xs, 0 ≤ x ∧ x ≤ 3
theorem Few.pl {xs : List Int} (h : Few xs) : Pl xs := fun x hx => ⟨(h x hx).1, Int.lt_of_le_of_lt (h x hx).2 (by decide)⟩
theorem tops_mem {x : V} (h : x ∈ [V.int 1, V.int 1, V.int 2, V.int 2, V.int 3, V.int 0]) : ∃ i : Int, x = .int i ∧ 0 ≤ i ∧ i ≤ 3 := by
  simp only [List.mem_cons, List.not_mem_nil, or_false] at h
  rcases h with e | e | e | e | e | e <;> exact ⟨_, e, by decide, by decide⟩
def spTopsL : Sp := fun vs H Q _ => ∃ (a : Addr) (c : Nat), vs = [.ref a] ∧ PotAt H a c ∧ c < 900000 ∧
  ∀ H' p tops, But a H H' → PotAt H' a (c + 5) → H' p = some (.tup (tops.map V.int)) → 1 ≤ tops.length → tops.length ≤ 4 → Few tops → Q (.ref p) H'
theorem ok_topsL {f fT fO : Addr} {fd fdT fdO : FuncData} {k : Nat} (F : Fun K "_law_tops" "_law_tops" aTops f fd) (T : Kn P w K mg base 1 "_law_take" ["_law_pot_here", "_law_many"] spTake fT fdT)
    (O : Kn P w K mg base 2 "_law_of" ["_law_pot_here", "_law_some"] (spOf K) fO fdO) (mr : mg "range" = none) (mt : mg "tuple" = none) : FnOk P w K mg base CX0 (k + 3) f fd ["_law_pot_here"] spTopsL := by
  refine F.ok scTopsL (fun vs H Q E h => ?_) (fun cdv A outer s H vs Q E hr h => ?_)
  · obtain ⟨a, c, rfl, _⟩ := h
    rfl
  · obtain ⟨a, c, rfl, pa, hc, q⟩ := h
    refine ⟨_, pss_one (ps_ret (pe_callTy call_tuple_of (by rfl) mt (by decide +kernel) (pa_cons
      (pe_lc (own := [("_law_thing", 1)]) (g := gName 1) (tt := tYes) (te := tCall (spOf K) [] E0 (tCons (tVar 0) (tCons (tLst (tCons (tC (.int 1)) (tCons (tC (.int 1)) (tCons (tC (.int 2)) (tCons (tC (.int 2)) (tCons (tC (.int 3)) (tCons (tC (.int 0)) tNil))))))) tNil))) rfl scTopsL.nd (pi_range1 (by rfl) mr (pa_cons (pe_op op_add pe_int (pe_kn T hr (by omega) (pa_cons (pv 0) (pa_cons pe_int pa_nil)))) pa_nil)) (blkOk_by (N := ["_law_pot_here", "_law_thing"]) (sc := defScope aTops) (by decide +kernel))
        (fun _ _ _ _ _ => pg_name (i := 1) scTopsL.nd rfl (.inl rfl) (hf := .inr rfl)) (fun _ _ _ _ _ => pts_nil)
        (fun _ _ _ _ _ => pe_kn O hr (by omega) (pa_cons (pv 0) (pa_cons (pe_lst (pa_cons pe_int (pa_cons pe_int (pa_cons pe_int (pa_cons pe_int (pa_cons pe_int (pa_cons pe_int pa_nil))))))) pa_nil)))) pa_nil))), ?_⟩
    refine ⟨.ref a, rfl, a, 4, c, rfl, pa, by decide, by decide, by omega, fun d H1 b1 p1 d0 d1 => ?_⟩
    refine ⟨1, d, rfl, rfl, _, rfl, by omega, by omega, fun D nD => lc_it walk_range (fun i H' => But a H1 H' ∧ PotAt H' a (c + 1 + i) ∧ ∃ ts : List Int, H' D = some (.lst (ts.map V.int)) ∧ ts.length = i ∧ Few ts)
      ⟨but_new (fun _ _ _ e => e) nD, pot_upd p1 (p1.ne nD), [], upd_same, rfl, fun _ h => absurd h List.not_mem_nil⟩ (fun _ _ _ _ => trivial) (fun i v H2 H3 hi p y => ?_) (fun H2 p => ?_)⟩
    · obtain ⟨b2, p2, ts, eD, tl, tp⟩ := p
      obtain ⟨rfl, rfl⟩ := y
      have nDa : D ≠ a := p1.ne nD
      refine ⟨rfl, .ref a, rfl, (show 6 ≤ sizeLine by decide), fun m nm => ?_⟩
      have nma : m ≠ a := p2.ne nm
      refine ⟨a, m, _, _, rfl, pot_upd p2 nma, nma, .inl (.inl (.inl upd_same)), (show 1 ≤ 6 by decide), (show 6 ≤ 1000000 by decide), by omega, fun x H5 hx b5 p5 => ?_⟩
      obtain ⟨n, rfl, n0, n3⟩ := tops_mem hx
      have b35 : But a H3 H5 := fun b o ne e => b5 _ _ ne (same_new nm _ _ e)
      refine ⟨_, b35 _ _ nDa eD, by rw [List.length_map]; exact small1000 (by omega), but_new (b2.trans b35) nD, pot_upd (p5.mono (by omega)) nDa, ts ++ [n], ?_, by rw [List.length_append, tl]; rfl, fun y hy => ?_⟩
      · rw [upd_same, List.map_append]
        rfl
      · rcases List.mem_append.mp hy with h | h
        · exact tp y h
        · rw [List.mem_singleton.mp h]
          exact ⟨n0, n3⟩
    · obtain ⟨b2, p2, ts, eD, tl, tp⟩ := p
      refine ⟨D, _, rfl, .inl ⟨.inl (.inl eD), fun R nR => ?_⟩⟩
      have nRa : R ≠ a := p2.ne nR
      have b02 := b1.trans b2
      exact q _ R ts (but_new b02 (b02.free nRa nR)) (pot_upd (p2.mono (by omega)) nRa) upd_same (by omega) (by omega) tp

end
theorem tand_join {c x : Bool} {tb : TE} {σ : L2.St} {H : Hp} {K : VK} (hb : ∀ Q : VK, Q (.bl x) H → tb σ H Q) (q : K (.bl (c && x)) H) : if c = true then tb σ H K else K (.bl false) H := by
  cases c with
  | true => exact hb K q
  | false => exact q
theorem tand_joinT {c x : Bool} {u : TT} {σ : L2.St} {H : Hp} {Q : Bool → Hp → Prop} (hu : ∀ Q : Bool → Hp → Prop, Q x H → u σ H Q) (q : Q (c && x) H) : if c = true then u σ H Q else Q false H := by
  cases c with
  | true => exact hu Q q
  | false => exact q
theorem tor_join {c x : Bool} {u : TT} {σ : L2.St} {H : Hp} {Q : Bool → Hp → Prop} (hu : ∀ Q : Bool → Hp → Prop, Q x H → u σ H Q) (q : Q (c || x) H) : if c = true then Q true H else u σ H Q := by
  cases c with
  | true => exact q
  | false => exact hu Q q

/-! ### the law: which sides are in, which rules are broken -/
abbrev aIn : Stmt := topS 61
theorem scLIn : FnScope ["_law_side", "_law_standing_here", "_law_thing", "_law_word", "_law_place"] ["_law_side", "_law_standing_here"] (defScope aIn) := ⟨rfl, rfl, rfl, by decide +kernel, rfl, by decide +kernel, by decide +kernel⟩
section
variable {P : Program} {w : World} {K : PySem.W.Frag} {mg : Str → Option Value} {base : Heap}
theorem ok_lin {f : Addr} {fd : FuncData} {k : Nat} (F : Fun K "_law_is_in" "_law_is_in" aIn f fd) : FnOk P w K mg base CX0 (k + 1) f fd ["_law_side", "_law_standing_here"] spIn := by
  refine F.ok scLIn (fun vs H Q E h => ?_) (fun cdv A outer s H vs Q E hr h => ?_)
  · obtain ⟨p, t, sd, xs, rfl, _⟩ := h
    rfl
  · obtain ⟨p, t, ⟨n, b, pl⟩, xs, rfl, ep, et, ln, q⟩ := h
    have ep' : H p = some (.tup [.int (n : Int), .str (word b), .int pl]) := ep
    have ln' : n < xs.length := ln
    have eg := at_int ln'
    have eb : inB xs (n, b, pl) = if b then decide (pl ≤ xs[n]) else decide (xs[n] ≤ pl) := by
      unfold inB
      simp only [List.getElem?_eq_getElem ln']
    rw [eb] at q
    refine ⟨_, pss_cons (ps_asg (pv 0) (pg_tup (by rfl) (pgs_cons (pg_name (i := 2) scLIn.nd rfl (.inl rfl)) (pgs_cons (pg_name (i := 3) scLIn.nd rfl (.inl rfl)) (pgs_cons (pg_name (i := 4) scLIn.nd rfl (.inl rfl)) pgs_nil)))))
      (pss_one (ps_ret (pe_ifExp (pt_cmpR op_eq (pv 3) pe_str (nomark _)) (pe_cmpR op_ge (pe_ix ix_tup (pv 1) (pv 2) (fun _ _ => rfl)) (pv 4) (nomark _)) (pe_cmpR op_le (pe_ix ix_tup (pv 1) (pv 2) (fun _ _ => rfl)) (pv 4) (nomark _))))), ?_⟩
    refine ⟨.ref p, rfl, p, _, rfl, .inl (.inl ep'), rfl, _, _, rfl, _, _, rfl, _, _, rfl, rfl, ?_⟩
    cases b with
    | true =>
      refine ⟨_, rfl, rfl, true, congrArg V.bl w_from, iteT ?_⟩
      exact ⟨.ref t, rfl, .int n, rfl, t, _, n, _, rfl, rfl, .inl (.inl et), eg, .int pl, rfl, _, pl, rfl, rfl, q⟩
    | false =>
      refine ⟨_, rfl, rfl, false, congrArg V.bl w_to, iteF ?_⟩
      exact ⟨.ref t, rfl, .int n, rfl, t, _, n, _, rfl, rfl, .inl (.inl et), eg, .int pl, rfl, _, pl, rfl, rfl, q⟩
end
abbrev aBrk : Stmt := topS 62
abbrev nBrk : List Str := ["_law_rules_here", "_law_standing_here", "_law_found", "_law_number", "_law_one", "_law_two"]
theorem scBrk : FnScope nBrk ["_law_rules_here", "_law_standing_here"] (defScope aBrk) := ⟨rfl, rfl, rfl, by decide +kernel, rfl, by decide +kernel, by decide +kernel⟩
section
variable {P : Program} {w : World} {K : PySem.W.Frag} {mg : Str → Option Value} {base : Heap}
def spBrk : Sp := fun vs H Q _ => ∃ (R t : Addr) (rs : List Rl) (xs : List Int), vs = [.ref R, .ref t] ∧ RulesAt H R rs ∧ H t = some (.tup (xs.map V.int)) ∧ rs.length ≤ 40 ∧ (∀ q ∈ rs, Fit xs q) ∧
  ∀ H' p, Same H H' → H p = none → H' p = some (.lst ((brok xs rs).map V.int)) → Q (.ref p) H'
set_option maxHeartbeats 2000000 in
theorem ok_brk {f fL : Addr} {fd fdL : FuncData} {k : Nat} (F : Fun K "_law_broken" "_law_broken" aBrk f fd) (Ln : Kn P w K mg base 1 "_law_is_in" ["_law_side", "_law_standing_here"] spIn fL fdL) (me : mg "enumerate" = none) : FnOk P w K mg base CX0 (k + 2) f fd ["_law_rules_here", "_law_standing_here"] spBrk := by
  refine F.ok scBrk (fun vs H Q E h => ?_) (fun cdv A outer s H vs Q E hr h => ?_)
  · obtain ⟨R, t, rs, xs, rfl, _⟩ := h
    rfl
  · obtain ⟨R, t, rs, xs, rfl, ⟨as, eR, la, ha⟩, et, l40, ft, q⟩ := h
    refine ⟨_, pss_cons (ps_set (i := 2) scBrk.nd rfl (.inl rfl) (pe_lst pa_nil))
      (pss_cons (ps_for PassesOwn.never rfl (pi_enumT (by rfl) me (pa_cons (pv 0) pa_nil)) (pg_tup rfl (pgs_cons (pg_name (i := 3) scBrk.nd rfl (.inl rfl)) (pgs_cons (pg_tup rfl (pgs_cons (pg_name (i := 4) scBrk.nd rfl (.inl rfl)) (pgs_cons (pg_name (i := 5) scBrk.nd rfl (.inl rfl)) pgs_nil))) pgs_nil)))
        (pss_one (ps_if (PW.pt (pw_and (pt_not (pt_val (pe_kn Ln hr (by omega) (pa_cons (pv 4) (pa_cons (pv 1) pa_nil))))) (pw_and1 (pt_not (pt_val (pe_kn Ln hr (by omega) (pa_cons (pv 5) (pa_cons (pv 1) pa_nil))))))))
          (pss_one (ps_expr (pe_bm PySem.F.plainAttrs_list PySem.F.slot_list_append PySem.F.type_list_append mt_append (pv 2) (pa_cons (pv 3) pa_nil)))) pss_nil)))
      (pss_one (ps_ret (pv 2)))), ?_⟩
    refine ⟨Nat.zero_le _, fun l nl => ?_⟩
    have sl := same_new (o := HO.lst []) nl
    refine ⟨.ref R, rfl, R, _, rfl, .inl (.inl (sl _ _ eR)), for_it (walk_enumT (xs := as.map V.ref)) (fun i σ H' => (∃ u3 u4 u5, σ = [some (.ref R), some (.ref t), some (.ref l), u3, u4, u5]) ∧ Same H H' ∧ H' l = some (.lst ((brok xs (rs.take i)).map V.int)))
      ⟨⟨none, none, none, rfl⟩, sl, upd_same⟩ (fun i σ H' _ p => .inl (.inl (p.2.1 _ _ eR))) (fun i v σ H2 H3 hi p y => ?_) (fun σ H2 p => ?_)⟩
    · obtain ⟨⟨u5, u6, u7, rfl⟩, s2, el⟩ := p
      obtain ⟨T', x1, x2, rfl, nT, rfl, g1, g2⟩ := y
      have e1 : x1 = .int (i : Nat) := (Option.some.inj g1).symm
      subst e1
      obtain ⟨r, er, rfl⟩ := mapGet g2
      have hi' : i < as.length := by simpa using hi
      have hr' : i < rs.length := by omega
      have eq : rs[i]? = some rs[i] := List.getElem?_eq_getElem hr'
      have nTl : l ≠ T' := ne_of_none el nT
      have smT : Same H (upd H2 T' (.tup [V.int (i : Nat), V.ref r])) := same_over s2 (s2.free nT)
      have elT : (upd H2 T' (.tup [V.int (i : Nat), V.ref r])) l = some (.lst ((brok xs (rs.take i)).map V.int)) := (upd_ne nTl).trans el
      obtain ⟨p1, p2, e3, h1, h2⟩ := (ha i r _ er eq).keep (.same smT)
      have fi := ft _ (List.getElem_mem hr')
      have et3 := smT _ _ et
      have bt := brok_take xs rs i _ eq
      refine ⟨T', _, rfl, .inl (.inl upd_same), rfl, _, _, rfl, _, _, rfl, ⟨r, _, rfl, .inl (.inl e3), rfl, _, _, rfl, _, _, rfl, rfl, ?_⟩⟩
      refine ⟨rfl, .ref p1, rfl, .ref t, rfl, p1, t, rs[i].1, xs, rfl, h1, et3, fi.1, _, rfl, ?_⟩
      cases c1 : inB xs rs[i].1 with
      | true =>
        refine iteF (iteF ⟨⟨_, _, _, rfl⟩, smT, ?_⟩)
        rw [bt]
        simp only [kept, c1, Bool.true_or, if_true, List.append_nil]
        exact elT
      | false =>
        refine iteT ⟨.ref p2, rfl, .ref t, rfl, p2, t, rs[i].2, xs, rfl, h2, et3, fi.2, _, rfl, ?_⟩
        cases c2 : inB xs rs[i].2 with
        | true =>
          refine iteF ⟨⟨_, _, _, rfl⟩, smT, ?_⟩
          rw [bt]
          simp only [kept, c1, c2, Bool.or_true, if_true, List.append_nil]
          exact elT
        | false =>
          refine iteT ⟨.ref l, rfl, .inl ⟨rfl, _, .inl (.inl elT)⟩, .int (i : Nat), rfl, l, _, _, rfl, rfl, elT, ?_, ⟨_, _, _, rfl⟩, same_over smT nl, ?_⟩
          · rw [List.length_map]
            refine Nat.lt_of_le_of_lt (brok_len _ _) ?_
            rw [List.length_take]
            exact small1000 (by omega)
          · rw [upd_same, bt]
            simp only [kept, c1, c2, Bool.or_false, Bool.false_eq_true, if_false, List.map_append]
            rfl
    · obtain ⟨⟨u5, u6, u7, rfl⟩, s2, el⟩ := p
      rw [List.length_map, List.take_of_length_le (by omega)] at el
      exact ⟨_, rfl, q _ l s2 nl el⟩
end
end K66

set_option Elab.async false
set_option linter.all false
set_option maxRecDepth 100000
namespace K66
open PySem PySem.Spec PyProof.Rows L2 NB

/-! ### data and pots -/
theorem PotAt.lst {H : Hp} {a : Addr} {c : Nat} (h : PotAt H a c) : ∃ zs, H a = some (.lst zs) := by
  obtain ⟨p, q, r, e, _⟩ := h
  exact ⟨_, e⟩
theorem da_but {a : Addr} {H H' : Hp} {c : Nat} {v : V} {d : PyData} (h : Da a H v d) (p : PotAt H a c) (b : But a H H') : Da a H' v d := Da.keep p.lst b d v h
theorem daAll_but {a : Addr} {H H' : Hp} {c : Nat} {vs : List V} {ds : List PyData} (h : DaAll a H vs ds) (p : PotAt H a c) (b : But a H H') : DaAll a H' vs ds := DaAll.keep p.lst b ds vs h
theorem new_tup {n t : Addr} {H : Hp} {xs : List V} {ds : List PyData} (nt : H t = none) (h : DaAll n H xs ds) : Same H (upd H t (.tup xs)) ∧ Da n (upd H t (.tup xs)) (.ref t) (.tuple ds) := ⟨same_new nt, .tup upd_same (h.same (same_new nt))⟩
theorem new_lst {n t : Addr} {H : Hp} {xs : List V} {ds : List PyData} {c : Nat} (nt : H t = none) (ns : t ≠ sysModules) (p : PotAt H n c) (h : DaAll n H xs ds) : Same H (upd H t (.lst xs)) ∧ Da n (upd H t (.lst xs)) (.ref t) (.list ds) := ⟨same_new nt, .lst upd_same ns (p.ne nt) (h.same (same_new nt))⟩
theorem new_dct {n t : Addr} {H : Hp} (nt : H t = none) : Same H (upd H t (.dK [])) ∧ Da n (upd H t (.dK [])) (.ref t) (.dict []) := ⟨same_new nt, .dct upd_same .nil⟩
theorem but_same {a : Addr} {H H' H'' : Hp} (b : But a H H') (s : Same H' H'') : But a H H'' := b.trans (But.of s)
theorem wt_at {ds : List PyData} {i : Nat} {d : PyData} (h : ds[i]? = some d) : PyData.weightAll ds = PyData.weightAll (ds.take i) + (d.weight + 1) + PyData.weightAll (ds.drop (i + 1)) := by
  have hi := (List.getElem?_eq_some_iff.mp h).1
  have e : ds = ds.take i ++ (d :: ds.drop (i + 1)) := by
    have e2 := (List.getElem?_eq_some_iff.mp h).2
    rw [← e2, ← List.drop_eq_getElem_cons hi, List.take_append_drop]
  have := wt_app (ds.take i) (d :: ds.drop (i + 1))
  rw [← e] at this
  simp only [PyData.weightAll] at this
  omega
theorem wt_two (ds : List PyData) (i : Nat) : PyData.weightAll ds = PyData.weightAll (ds.take i) + PyData.weightAll (ds.drop i) := by
  have := wt_app (ds.take i) (ds.drop i)
  rw [List.take_append_drop] at this
  exact this
theorem SmE.mono {ds : List PyData} {k m : Nat} (h : SmE ds k) (le : k ≤ m) : SmE ds m := fun d hd => ⟨(h d hd).1, Nat.le_trans (h d hd).2.1 le, (h d hd).2.2⟩
theorem SmE.app {ds es : List PyData} {k : Nat} (h : SmE ds k) (h' : SmE es k) : SmE (ds ++ es) k := fun d hd => by
  rcases List.mem_append.mp hd with q | q
  · exact h d q
  · exact h' d q
theorem SmE.take {ds : List PyData} {k : Nat} (h : SmE ds k) (i : Nat) : SmE (ds.take i) k := fun d hd => h d (List.mem_of_mem_take hd)
theorem SmE.drop {ds : List PyData} {k : Nat} (h : SmE ds k) (i : Nat) : SmE (ds.drop i) k := fun d hd => h d (List.mem_of_mem_drop hd)
theorem SmE.one {d : PyData} {w k : Nat} (h : Sm d w k) : SmE [d] k := fun x hx => by
  rw [List.mem_singleton.mp hx]
  exact h.e
theorem SmE.ints {xs : List Int} (h : ∀ x ∈ xs, x.natAbs < 10 ^ 90) : SmE (xs.map PyData.int) 0 := fun d hd => by
  obtain ⟨x, hx, rfl⟩ := List.mem_map.mp hd
  exact (Sm.int (h x hx)).e
theorem wt_ints : ∀ {xs : List Int}, (∀ x ∈ xs, x.natAbs < 10 ^ 90) → PyData.weightAll (xs.map PyData.int) ≤ 311 * xs.length
  | [], _ => Nat.le_refl _
  | x :: xs, h => by
    have a := (Sm.int (h x List.mem_cons_self)).wt
    have b := wt_ints fun y hy => h y (List.mem_cons_of_mem _ hy)
    simp only [List.map_cons, PyData.weightAll, List.length_cons]
    omega

/-! ### what the law draws -/
section
variable {P : Program} {w : World} {K : PySem.W.Frag} {mg : Str → Option Value} {base : Heap}
def spCase : Sp := fun vs H Q _ => ∃ (a : Addr) (m : Int) (c : Nat), vs = [.ref a, .int m] ∧ PotAt H a c ∧ 0 ≤ m ∧ m ≤ 15 ∧ c < 700000 ∧
  ∀ H' g pt pb R tops st rs, But a H H' → PotAt H' a (c + 200) → H' g = some (.tup [.ref pt, .ref pb, .ref R]) → H' pt = some (.tup (tops.map V.int)) → Std tops H' pb st → RulesAt H' R rs → 1 ≤ tops.length → tops.length ≤ 4 → Few tops → (rs.length : Int) ≤ m → (∀ q ∈ rs, RuleOk tops q ∧ kept st q = true) → Q (.ref g) H'
abbrev a__law_case : Stmt := topS 67
abbrev n__law_case : List Str := ["_law_pot_here", "_law_many", "_law_tops_here", "_law_begin"]
theorem sc__law_case : FnScope n__law_case ["_law_pot_here", "_law_many"] (defScope a__law_case) := ⟨rfl, rfl, rfl, by decide +kernel, rfl, by decide +kernel, by decide +kernel⟩
set_option maxHeartbeats 8000000 in
theorem ok__law_case {f fTp fSd fRu fT : Addr} {fd fdTp fdSd fdRu fdT : FuncData} {k : Nat}  (F : Fun K "_law_case" "_law_case" a__law_case f fd) (Tp : Kn P w K mg base 3 "_law_tops" ["_law_pot_here"] spTopsL fTp fdTp) (Sd : Kn P w K mg base 2 "_law_standing" ["_law_pot_here", "_law_tops_here"] (spStand K) fSd fdSd) (Ru : Kn P w K mg base 3 "_law_rules" ["_law_pot_here", "_law_tops_here", "_law_one", "_law_two", "_law_many"] spRulesL fRu fdRu) (T : Kn P w K mg base 1 "_law_take" ["_law_pot_here", "_law_many"] spTake fT fdT)   : FnOk P w K mg base CX0 (k + 4) f fd ["_law_pot_here", "_law_many"] spCase := by
  refine F.ok sc__law_case (fun vs H Q E h => ?_) (fun cdv A outer s H vs Q E hr h => ?_)
  · obtain ⟨a, m, c, rfl, _⟩ := h
    rfl
  · obtain ⟨a, m, c, rfl, pa, m0, m15, hc, q⟩ := h
    refine ⟨_, (pss_cons (ps_set (i := 2) sc__law_case.nd rfl (.inl rfl) (pe_kn Tp hr (by omega) (pa_cons (pv 0) pa_nil)))
      (pss_cons (ps_set (i := 3) sc__law_case.nd rfl (.inl rfl) (pe_kn Sd hr (by omega) (pa_cons (pv 0) (pa_cons (pv 2) pa_nil))))
      (pss_one (ps_ret (pe_tup (pa_cons (pv 2) (pa_cons (pv 3) (pa_cons (pe_kn Ru hr (by omega) (pa_cons (pv 0) (pa_cons (pv 2) (pa_cons (pv 3) (pa_cons (pe_kn Sd hr (by omega) (pa_cons (pv 0) (pa_cons (pv 2) pa_nil))) (pa_cons (pe_kn T hr (by omega) (pa_cons (pv 0) (pa_cons (pe_op op_add (pv 1) pe_int) pa_nil))) pa_nil)))))) pa_nil)))))))), ?_⟩
    refine ⟨.ref a, rfl, a, c, rfl, pa, by omega, fun H1 pt tops b1 p1 et t1 t4 few => ?_⟩
    have lt : tops.length ≤ 12 := by omega
    refine ⟨.ref a, rfl, .ref pt, rfl, a, pt, tops, _, rfl, p1, .inl (.inl et), few.pl, lt, by omega, fun H2 pb st b2 p2 n2 eb lb plb leb => ?_⟩
    have k2 := Keep.but b2 p1
    have et2 := k2.tup et
    refine ⟨.ref pt, rfl, .ref pb, rfl, .ref a, rfl, .ref pt, rfl, .ref pb, rfl, .ref a, rfl, .ref pt, rfl, a, pt, tops, _, rfl, p2, .inl (.inl et2), few.pl, lt, by omega, fun H3 pc sc b3 p3 n3 ec lc plc' lec => ?_⟩
    have k3 := Keep.but b3 p2
    have et3 := k3.tup et2
    have eb3 := k3.tup eb
    refine ⟨.ref a, rfl, _, rfl, m, 1, rfl, rfl, a, m + 1, _, rfl, p3, by omega, by omega, by omega, fun z H4 b4 p4 z0 z1 => ?_⟩
    have k4 := Keep.but b4 p3
    have et4 := k4.tup et3
    have eb4 := k4.tup eb3
    have ec4 := k4.tup ec
    refine ⟨a, pt, pb, pc, tops, st, sc, z, _, rfl, p4, et4, few.pl, t1, lt, ⟨eb4, lb, plb, leb⟩, ⟨ec4, lc, plc', lec⟩, z0, by omega, by omega, fun H5 R rs b5 p5 hR lR ok => ?_⟩
    have k5 := Keep.but b5 p4
    refine ⟨(show 3 ≤ sizeLine by decide), fun g ng => ?_⟩
    have sg := same_new (o := HO.tup [V.ref pt, .ref pb, .ref R]) ng
    have b05 : But a H H5 := (((b1.trans b2).trans b3).trans b4).trans b5
    exact q _ g pt pb R tops st rs (but_same b05 sg) ((p5.keep sg).mono (by omega)) upd_same (sg _ _ (k5.tup et4)) ⟨sg _ _ (k5.tup eb4), lb, plb, leb⟩ (hR.keep (.same sg)) t1 t4 few (by omega) fun q' hq => ⟨(ok q' hq).1, (ok q' hq).2.1⟩
def spLStD : Sp := fun vs H Q _ => ∃ (n t : Addr) (tops : List Int) (v : V) (d : PyData), vs = [.ref t, v] ∧ H t = some (.tup (tops.map V.int)) ∧ tops.length ≤ 12 ∧ Da n H v d ∧ ∀ H', Same H H' → Q (.bl (standingD tops d)) H'
abbrev a__law_is_standing : Stmt := topS 69
abbrev n__law_is_standing : List Str := ["_law_tops_here", "_law_thing", "_law_place", "_law_top"]
theorem sc__law_is_standing : FnScope n__law_is_standing ["_law_tops_here", "_law_thing"] (defScope a__law_is_standing) := ⟨rfl, rfl, rfl, by decide +kernel, rfl, by decide +kernel, by decide +kernel⟩
set_option maxHeartbeats 8000000 in
theorem ok__law_is_standing {f  : Addr} {fd  : FuncData} {k : Nat}  (F : Fun K "_law_is_standing" "_law_is_standing" a__law_is_standing f fd)   (m_bool : mg "bool" = none) (m_int : mg "int" = none) (m_isinstance : mg "isinstance" = none) (m_len : mg "len" = none) (m_tuple : mg "tuple" = none) (m_zip : mg "zip" = none) : FnOk P w K mg base CX0 (k + 2) f fd ["_law_tops_here", "_law_thing"] spLStD := by
  refine F.ok sc__law_is_standing (fun vs H Q E h => ?_) (fun cdv A outer s H vs Q E hr h => ?_)
  · obtain ⟨n, t, tops, v, d, rfl, _⟩ := h
    rfl
  · obtain ⟨n, t, tops, v, d, rfl, et, l12, hd, q⟩ := h
    refine ⟨_, (pss_cons (ps_if (PW.pt (pw_or (pt_not (pt_val (pe_callB call_isiD (by rfl) m_isinstance (by decide +kernel) (pa_cons (pv 1) (pa_cons (pe_bltn (v := .ty "tuple") (u := .type "tuple") (by rfl) m_tuple (by decide +kernel) rfl) pa_nil))))) (pw_or1 (pt_cmpR op_ne (pe_callB call_len_seq (by rfl) m_len (by decide +kernel) (pa_cons (pv 1) pa_nil)) (pe_callB call_len_seq (by rfl) m_len (by decide +kernel) (pa_cons (pv 0) pa_nil)) (nomark _))))) (pss_one (ps_ret pe_bl)) pss_nil)
      (pss_cons (ps_for PassesOwn.never rfl (RZ.pi_zipA (by rfl) m_zip (pa_cons (pv 1) (pa_cons (pv 0) pa_nil))) (pg_tup rfl (pgs_cons (pg_name (i := 2) sc__law_is_standing.nd rfl (.inl rfl)) (pgs_cons (pg_name (i := 3) sc__law_is_standing.nd rfl (.inl rfl)) pgs_nil)))
        (pss_one (ps_if (PW.pt (pw_or (pt_not (pt_val (pe_callB call_isiD (by rfl) m_isinstance (by decide +kernel) (pa_cons (pv 2) (pa_cons (pe_bltn (v := .ty "int") (u := .type "int") (by rfl) m_int (by decide +kernel) rfl) pa_nil))))) (pw_or (pt_val (pe_callB call_isiD (by rfl) m_isinstance (by decide +kernel) (pa_cons (pv 2) (pa_cons (pe_bltn (v := .ty "bool") (u := .type "bool") (by rfl) m_bool (by decide +kernel) rfl) pa_nil)))) (pw_or1 (pt_not (pt_chain op_le op_le pe_int (pv 2) (pv 3))))))) (pss_one (ps_ret pe_bl)) pss_nil)))
      (pss_one (ps_ret pe_bl)))), ?_⟩
    rcases tup_or d with ⟨ds, rfl⟩ | hn
    rotate_left
    · refine ⟨_, rfl, n, _, d, "tuple", _, rfl, hd, kit_tup d, _, rfl, ?_⟩
      rw [hn]
      rw [standing_no hn] at q
      exact iteT (iteT (q H (Same.refl H)))
    cases hd with
    | tup e ha =>
    rename_i a xs
    have ll := ha.len
    have eS : standingD tops (.tuple ds) = (decide (ds.length = tops.length) && (tops.zip ds).all fun p => placeD p.1 p.2) := rfl
    rw [eS] at q
    refine ⟨_, rfl, n, _, _, "tuple", _, rfl, .tup e ha, kit_tup _, _, rfl, iteF ⟨_, rfl, a, xs, rfl, .inr (.inl (.inl e)), .ref t, rfl, t, _, rfl, .inr (.inl (.inl et)), rfl, _, rfl, ?_⟩⟩
    by_cases c' : ds.length = tops.length
    rotate_left
    · have nb : (!decide (V.int (xs.length : Int) = V.int ((tops.map V.int).length : Int))) = true := by
        have : ¬ ((xs.length : Int) = tops.length) := by omega
        rw [List.length_map]
        simp [this]
      rw [nb]
      rw [decide_eq_false c', Bool.false_and] at q
      exact iteT (q H (Same.refl H))
    have nb : (!decide (V.int (xs.length : Int) = V.int ((tops.map V.int).length : Int))) = false := by
      have : ((xs.length : Int) = tops.length) := by omega
      rw [List.length_map]
      simp [this]
    rw [nb]
    rw [decide_eq_true c', Bool.true_and] at q
    refine iteF ⟨.ref a, rfl, .ref t, rfl, a, t, _, _, rfl, .inr ⟨.inl (.inl e), .inl (.inl et), for_it (walk_zipT (xs := xs) (ys := tops.map V.int) (by rw [List.length_map]; omega)) (fun i σ H' => (∃ u2 u3, σ = [some (.ref t), some (.ref a), u2, u3]) ∧ Same H H' ∧ ∀ p ∈ (tops.zip ds).take i, placeD p.1 p.2 = true) ⟨⟨none, none, rfl⟩, Same.refl H, fun p hp => absurd hp (by simp)⟩ (fun i σ H' _ p => ⟨.inl (.inl (p.2.1 _ _ e)), .inl (.inl (p.2.1 _ _ et))⟩) (fun i v σ H1 H2 hi p y => ?_) (fun σ H' p => ?_)⟩⟩
    · obtain ⟨⟨u2, u3, rfl⟩, sm, al⟩ := p
      obtain ⟨T', x1, x2, rfl, nT, rfl, g1, g2⟩ := y
      obtain ⟨tp, et', rfl⟩ := mapGet g2
      obtain ⟨dd, ed, hdd⟩ := ha.get i x1 g1
      have sT := same_new (o := HO.tup [x1, V.int tp]) nT
      have s2 := sm.trans sT
      have e2 : (upd H1 T' (HO.tup [x1, V.int tp])) T' = some (.tup [x1, .int tp]) := upd_same
      have hd2 := hdd.same s2
      generalize upd H1 T' (HO.tup [x1, V.int tp]) = H2 at s2 e2 hd2 ⊢
      have zi : (tops.zip ds)[i]? = some (tp, dd) := zip_at et' ed
      have no : placeD tp dd = false → Q (.bl false) H2 := fun z => by
        have : ((tops.zip ds).all fun p => placeD p.1 p.2) = false := by
          rw [List.all_eq_false]
          exact ⟨_, List.mem_of_getElem? zi, by simp [z]⟩
        rw [this] at q
        exact q _ s2
      have yes : placeD tp dd = true → ∀ p ∈ (tops.zip ds).take (i + 1), placeD p.1 p.2 = true := fun z p hp => by
        rw [List.take_add_one, zi] at hp
        rcases List.mem_append.mp hp with h | h
        · exact al p h
        · have : p = (tp, dd) := by simpa using h
          rw [this]
          exact z
      refine ⟨T', _, rfl, .inl (.inl e2), rfl, _, _, rfl, _, _, rfl, rfl, ?_⟩
      refine ⟨x1, rfl, n, x1, dd, "int", _, rfl, hd2, kit_int dd, _, rfl, ?_⟩
      cases dd with
      | int z =>
        cases hd2
        refine iteF ⟨_, rfl, n, _, _, "bool", _, rfl, .int z, kit_bool _, _, rfl, iteF ?_⟩
        have pz : placeD tp (.int z) = (decide (0 ≤ z) && decide (z ≤ tp)) := rfl
        refine ⟨_, rfl, 0, z, rfl, rfl, _, rfl, ite2 (fun c1 => ?_) (fun c1 => ?_)⟩
        · have c1' : (decide ((0 : Int) ≤ z)) = true := c1
          rw [c1', Bool.true_and] at pz
          refine ⟨.int tp, rfl, z, tp, rfl, rfl, _, rfl, ?_⟩
          by_cases w : z ≤ tp
          · rw [decide_eq_true w] at pz ⊢
            exact iteF ⟨⟨_, _, rfl⟩, s2, yes pz⟩
          · rw [decide_eq_false w] at pz ⊢
            exact iteT (no pz)
        · have c1' : (decide ((0 : Int) ≤ z)) = false := Bool.eq_false_iff.mpr c1
          rw [c1', Bool.false_and] at pz
          exact ⟨_, rfl, iteT (no pz)⟩
      | bool b =>
        cases hd2
        exact iteF ⟨_, rfl, n, _, _, "bool", _, rfl, .bl b, kit_bool _, _, rfl, iteT (no rfl)⟩
      | none => exact iteT (no rfl)
      | str z => exact iteT (no rfl)
      | list z => exact iteT (no rfl)
      | tuple z => exact iteT (no rfl)
      | dict z => exact iteT (no rfl)
    · obtain ⟨⟨u2, u3, rfl⟩, sm, al⟩ := p
      have tk : (tops.zip ds).take xs.length = tops.zip ds := List.take_of_length_le (by rw [List.length_zip]; omega)
      rw [tk] at al
      rw [List.all_eq_true.mpr al] at q
      exact q _ sm
end
end K66

set_option Elab.async false
set_option linter.all false
set_option maxRecDepth 100000
/-! list + list stands apart from what the machine keeps by itself. -/
namespace NB
open PySem PySem.Spec PySem.Calls PyProof.Rows L2
def rCatN : R2 := fun x y H Q => ∃ l b xs zs, x = .ref l ∧ y = .ref b ∧ H l = some (.lst xs) ∧ H b = some (.lst zs) ∧ xs.length + zs.length ≤ sizeLine ∧ ∀ p, H p = none → p ≠ sysModules → Q (.ref p) (upd H p (.lst (xs ++ zs)))
theorem op_catN {X : Cx} : OpR X (binaryOp .Add) rCatN := by
  intro pins s σ H x y v u Q I rx ry h
  obtain ⟨l, b, xs, zs, rfl, rfl, hH, hB, hz, q⟩ := h
  cases rx
  cases ry
  obtain ⟨z, its, n, r, hl, e⟩ := I.lstM hH
  obtain ⟨z2, its2, n2, r2, hl2, e2⟩ := I.lstM hB
  refine PySem.P.add_list e e2 ?_ (by rw [List.size_toArray, List.size_toArray]; omega)
  have ea : its.toArray ++ its2.toArray = (its ++ its2).toArray := by simp
  rw [ea]
  exact ⟨.ref _, _, I.lnew (t' := s.toks) (r.append r2) (by rw [List.length_append]; omega), rfl, q _ I.fresh (Nat.ne_of_gt I.big)⟩
end NB

set_option Elab.async false
set_option linter.all false
set_option maxRecDepth 100000
namespace K66
open PySem PySem.Spec PyProof.Rows L2 NB

/-! ### data that are apart from whatever was there before -/
mutual
theorem Da.keepg {n z : Addr} {H H' : Hp} (hn : ∃ zs, H z = some (.lst zs)) (k : ∀ b o, b ≠ z → (∀ ps, o ≠ .tbl ps) → H b = some o → H' b = some o) : ∀ (d : PyData) (v : V), Da n H v d → Da z H v d → Da n H' v d
  | .none, _, h, _ => by cases h; exact .non
  | .bool b, _, h, _ => by cases h; exact .bl b
  | .int i, _, h, _ => by cases h; exact .int i
  | .str x, _, h, _ => by cases h; exact .str x
  | .list ds, _, h, g => by
    cases h with
    | lst e n1 n2 ha =>
      cases g with
      | lst e' _ n3 hb =>
        have z := e.symm.trans e'
        cases z
        exact .lst (k _ _ n3 (fun _ w => by cases w) e) n1 n2 (DaAll.keepg hn k ds _ ha hb)
  | .tuple ds, _, h, g => by
    cases h with
    | tup e ha =>
      cases g with
      | tup e' hb =>
        have z := e.symm.trans e'
        cases z
        refine .tup (k _ _ (fun z => ?_) (fun _ w => by cases w) e) (DaAll.keepg hn k ds _ ha hb)
        obtain ⟨zs, q⟩ := hn
        rw [z, q] at e
        cases e
  | .dict ds, _, h, g => by
    cases h with
    | dct e ha =>
      cases g with
      | dct e' hb =>
        have z := e.symm.trans e'
        cases z
        refine .dct (k _ _ (fun z => ?_) (fun _ w => by cases w) e) (DaKv.keepg hn k ds _ ha hb)
        obtain ⟨zs, q⟩ := hn
        rw [z, q] at e
        cases e
theorem DaAll.keepg {n z : Addr} {H H' : Hp} (hn : ∃ zs, H z = some (.lst zs)) (k : ∀ b o, b ≠ z → (∀ ps, o ≠ .tbl ps) → H b = some o → H' b = some o) : ∀ (ds : List PyData) (vs : List V), DaAll n H vs ds → DaAll z H vs ds → DaAll n H' vs ds
  | [], _, h, _ => by cases h; exact .nil
  | d :: ds, _, h, g => by
    cases h with
    | cons h hs =>
      cases g with
      | cons g gs => exact .cons (Da.keepg hn k d _ h g) (DaAll.keepg hn k ds _ hs gs)
theorem DaKv.keepg {n z : Addr} {H H' : Hp} (hn : ∃ zs, H z = some (.lst zs)) (k : ∀ b o, b ≠ z → (∀ ps, o ≠ .tbl ps) → H b = some o → H' b = some o) : ∀ (ds : List (PyData × PyData)) (kvs : List (Key × V)), DaKv n H kvs ds → DaKv z H kvs ds → DaKv n H' kvs ds
  | [], _, h, _ => by cases h; exact .nil
  | (_, d) :: ds, (key, v) :: kvs, h, g => by
    cases h with
    | cons h hs =>
      cases g with
      | cons g gs => exact .cons (Da.keepg hn k d _ h g) (DaKv.keepg hn k ds _ hs gs)
end
theorem Da.keepx {n z : Addr} {H H' : Hp} (hn : ∃ zs, H z = some (.lst zs)) (k : ∀ b o, b ≠ z → H b = some o → H' b = some o) (d : PyData) (v : V) (h : Da n H v d) (g : Da z H v d) : Da n H' v d := Da.keepg hn (fun b o n _ e => k b o n e) d v h g
/-- what was there when the heap was H0, and the pot -/
def EX (a : Addr) (H0 : Hp) (z : Addr) : Prop := z = a ∨ H0 z ≠ none
def DaN (E : Addr → Prop) (H : Hp) (v : V) (d : PyData) : Prop := ∀ z, E z → Da z H v d
def DaAN (E : Addr → Prop) (H : Hp) (vs : List V) (ds : List PyData) : Prop := ∀ z, E z → DaAll z H vs ds
theorem DaN.non {E : Addr → Prop} {H : Hp} : DaN E H .non .none := fun _ _ => .non
theorem DaN.bl {E : Addr → Prop} {H : Hp} (b : Bool) : DaN E H (.bl b) (.bool b) := fun _ _ => .bl b
theorem DaN.int {E : Addr → Prop} {H : Hp} (b : Int) : DaN E H (.int b) (.int b) := fun _ _ => .int b
theorem DaN.str {E : Addr → Prop} {H : Hp} (b : Str) : DaN E H (.str b) (.str b) := fun _ _ => .str b
theorem DaAN.nil {E : Addr → Prop} {H : Hp} : DaAN E H [] [] := fun _ _ => .nil
theorem DaAN.cons {E : Addr → Prop} {H : Hp} {v : V} {d : PyData} {vs : List V} {ds : List PyData} (h : DaN E H v d) (t : DaAN E H vs ds) : DaAN E H (v :: vs) (d :: ds) := fun z e => .cons (h z e) (t z e)
theorem DaN.same {E : Addr → Prop} {H H' : Hp} {v : V} {d : PyData} (h : DaN E H v d) (k : Same H H') : DaN E H' v d := fun z e => (h z e).same k
theorem DaN.but {a : Addr} {H0 H H' : Hp} {c : Nat} {v : V} {d : PyData} (h : DaN (EX a H0) H v d) (p : PotAt H a c) (b : But a H H') : DaN (EX a H0) H' v d := fun z e => Da.keepx p.lst b d v (h z e) (h a (.inl rfl))
theorem DaN.own {a : Addr} {H0 H : Hp} {v : V} {d : PyData} (h : DaN (EX a H0) H v d) : Da a H v d := h a (.inl rfl)
/-- it stays when a list that was there before changes -/
theorem DaN.push {a D : Addr} {H0 H H' : Hp} {v : V} {d : PyData} {zs : List V} (h : DaN (EX a H0) H v d) (i : EX a H0 D) (e : H D = some (.lst zs)) (k : ∀ b o, b ≠ D → H b = some o → H' b = some o) : DaN (EX a H0) H' v d := fun z y => Da.keepx ⟨zs, e⟩ k d v (h z y) (h D i)
theorem new_tupN {E : Addr → Prop} {t : Addr} {H : Hp} {xs : List V} {ds : List PyData} (nt : H t = none) (h : DaAN E H xs ds) : Same H (upd H t (.tup xs)) ∧ DaN E (upd H t (.tup xs)) (.ref t) (.tuple ds) := ⟨same_new nt, fun z e => (new_tup nt (h z e)).2⟩
theorem new_dctN {E : Addr → Prop} {t : Addr} {H : Hp} (nt : H t = none) : Same H (upd H t (.dK [])) ∧ DaN E (upd H t (.dK [])) (.ref t) (.dict []) := ⟨same_new nt, fun _ _ => .dct upd_same .nil⟩
theorem new_lstN {a t : Addr} {H0 H : Hp} {xs : List V} {ds : List PyData} {c : Nat} (b : But a H0 H) (nt : H t = none) (ns : t ≠ sysModules) (p : PotAt H a c) (h : DaAN (EX a H0) H xs ds) : Same H (upd H t (.lst xs)) ∧ DaN (EX a H0) (upd H t (.lst xs)) (.ref t) (.list ds) := ⟨same_new nt, fun z e => by
  have ne : t ≠ z := fun q => by
    rcases e with rfl | e
    · exact p.ne nt q
    · cases hz : H0 z with
      | none => exact e hz
      | some o =>
        by_cases za : z = a
        · exact p.ne nt (q.trans za)
        · rw [q, b z o za hz] at nt
          cases nt
  have s := same_new (o := HO.lst xs) nt
  exact .lst upd_same ns ne ((h z e).same s)⟩
theorem DaN.butE {E : Addr → Prop} {a : Addr} {H H' : Hp} {c : Nat} {v : V} {d : PyData} (ha : E a) (h : DaN E H v d) (p : PotAt H a c) (b : But a H H') : DaN E H' v d := fun z e => Da.keepx p.lst b d v (h z e) (h a ha)
theorem DaN.pushE {E : Addr → Prop} {D : Addr} {H H' : Hp} {v : V} {d : PyData} {zs : List V} (h : DaN E H v d) (i : E D) (e : H D = some (.lst zs)) (k : ∀ b o, b ≠ D → H b = some o → H' b = some o) : DaN E H' v d := fun z y => Da.keepx ⟨zs, e⟩ k d v (h z y) (h D i)
/-- all but the pot and the tables stays -/
def BN (a : Addr) (H H' : Hp) : Prop := ∀ b o, b ≠ a → H b = some o → (∀ ps, o ≠ .tbl ps) → H' b = some o
theorem BN.but {a : Addr} {H H' : Hp} (b : But a H H') : BN a H H' := fun x o n e _ => b x o n e
theorem BN.trans {a : Addr} {H H' H'' : Hp} (b : BN a H H') (c : BN a H' H'') : BN a H H'' := fun x o n e t => c x o n (b x o n e t) t
theorem BN.da {a : Addr} {H H' : Hp} {c : Nat} {v : V} {d : PyData} (h : Da a H v d) (p : PotAt H a c) (b : BN a H H') : Da a H' v d := Da.keepg p.lst (fun x o n t e => b x o n e t) d v h h

/-! ### things of any kind in the place of a standing -/
section
variable {P : Program} {w : World} {K : PySem.W.Frag} {mg : Str → Option Value} {base : Heap}
def spOdd : Sp := fun vs H Q _ => ∃ (a : Addr) (c : Nat), vs = [.ref a] ∧ PotAt H a c ∧ c < 970000 ∧ ∀ v d H', But a H H' → PotAt H' a (c + 1) → DaN (EX a H) H' v d → Sm d 1100 5 → Q v H'
abbrev a__law_odd : Stmt := topS 68
abbrev n__law_odd : List Str := ["_law_pot_here", "_law_some"]
theorem sc__law_odd : FnScope n__law_odd ["_law_pot_here"] (defScope a__law_odd) := ⟨rfl, rfl, rfl, by decide +kernel, rfl, by decide +kernel, by decide +kernel⟩
set_option maxHeartbeats 8000000 in
theorem ok__law_odd {f fO : Addr} {fd fdO : FuncData} {k : Nat}  (F : Fun K "_law_odd" "_law_odd" a__law_odd f fd) (O : Kn P w K mg base 2 "_law_of" ["_law_pot_here", "_law_some"] (spOf K) fO fdO)   : FnOk P w K mg base CX0 (k + 3) f fd ["_law_pot_here"] spOdd := by
  refine F.ok sc__law_odd (fun vs H Q E h => ?_) (fun cdv A outer s H vs Q E hr h => ?_)
  · obtain ⟨a, c, rfl, _⟩ := h
    rfl
  · obtain ⟨a, c, rfl, pa, hc, q⟩ := h
    refine ⟨_, (pss_cons (ps_set (i := 1) sc__law_odd.nd rfl (.inl rfl) (pe_lstN (pa_cons pe_non (pa_cons pe_bl (pa_cons pe_int (pa_cons (pe_un un_neg pe_int) (pa_cons pe_str (pa_cons pe_str (pa_cons (pe_tup pa_nil) (pa_cons (pe_lstN pa_nil) (pa_cons pe_dnewK (pa_cons (pe_tup (pa_cons pe_int pa_nil)) (pa_cons (pe_lstN (pa_cons pe_int pa_nil)) (pa_cons (pe_tup (pa_cons pe_non pa_nil)) (pa_cons (pe_tup (pa_cons pe_str pa_nil)) (pa_cons (pe_tup (pa_cons pe_int (pa_cons (pe_tup (pa_cons pe_int pa_nil)) pa_nil))) (pa_cons (pe_tup (pa_cons (pe_tup (pa_cons pe_int (pa_cons pe_int pa_nil))) pa_nil)) (pa_cons (pe_tup (pa_cons pe_bl (pa_cons pe_bl pa_nil))) pa_nil))))))))))))))))))
      (pss_one (ps_ret (pe_kn O hr (by omega) (pa_cons (pv 0) (pa_cons (pe_op op_catN (pv 1) (pe_lstN (pa_cons (pe_tup (pa_cons pe_int (pa_cons pe_int (pa_cons pe_int (pa_cons pe_int (pa_cons pe_int pa_nil)))))) (pa_cons (pe_tup (pa_cons (pe_un un_neg pe_int) pa_nil)) (pa_cons (pe_tup (pa_cons (pe_op op_sub (pe_op op_pow pe_int pe_int) pe_int) pa_nil)) (pa_cons (pe_tup (pa_cons pe_int (pa_cons (pe_lstN pa_nil) pa_nil))) pa_nil)))))) pa_nil)))))), ?_⟩
    have B0 : But a H H := fun _ _ _ e => e
    refine ⟨1, rfl, (show 0 ≤ sizeLine by decide), fun t1 n1 => ?_⟩
    obtain ⟨s1, D1⟩ := new_tupN (E := EX a H) n1 .nil
    have p1 := pa.keep s1
    have B1 := but_same B0 s1
    generalize upd H t1 (.tup []) = H1 at s1 D1 p1 B1 ⊢
    have sS := s1
    refine ⟨(show 0 ≤ sizeLine by decide), fun t2 n2 m2 => ?_⟩
    obtain ⟨s2, D2⟩ := new_lstN B1 n2 m2 p1 .nil
    have p2 := p1.keep s2
    have B2 := but_same B1 s2
    replace D1 := D1.same s2
    generalize upd H1 t2 (.lst []) = H2 at s2 D2 p2 B2 D1 ⊢
    replace sS := sS.trans s2
    refine fun t3 n3 => ?_
    obtain ⟨s3, D3⟩ := new_dctN (E := EX a H) n3
    have p3 := p2.keep s3
    have B3 := but_same B2 s3
    replace D1 := D1.same s3
    replace D2 := D2.same s3
    generalize upd H2 t3 (.dK []) = H3 at s3 D3 p3 B3 D1 D2 ⊢
    replace sS := sS.trans s3
    refine ⟨(show 1 ≤ sizeLine by decide), fun t4 n4 => ?_⟩
    obtain ⟨s4, D4⟩ := new_tupN (E := EX a H) n4 (.cons (.int 0) .nil)
    have p4 := p3.keep s4
    have B4 := but_same B3 s4
    replace D1 := D1.same s4
    replace D2 := D2.same s4
    replace D3 := D3.same s4
    generalize upd H3 t4 (.tup [.int 0]) = H4 at s4 D4 p4 B4 D1 D2 D3 ⊢
    replace sS := sS.trans s4
    refine ⟨(show 1 ≤ sizeLine by decide), fun t5 n5 m5 => ?_⟩
    obtain ⟨s5, D5⟩ := new_lstN B4 n5 m5 p4 (.cons (.int 0) .nil)
    have p5 := p4.keep s5
    have B5 := but_same B4 s5
    replace D1 := D1.same s5
    replace D2 := D2.same s5
    replace D3 := D3.same s5
    replace D4 := D4.same s5
    generalize upd H4 t5 (.lst [.int 0]) = H5 at s5 D5 p5 B5 D1 D2 D3 D4 ⊢
    replace sS := sS.trans s5
    refine ⟨(show 1 ≤ sizeLine by decide), fun t6 n6 => ?_⟩
    obtain ⟨s6, D6⟩ := new_tupN (E := EX a H) n6 (.cons .non .nil)
    have p6 := p5.keep s6
    have B6 := but_same B5 s6
    replace D1 := D1.same s6
    replace D2 := D2.same s6
    replace D3 := D3.same s6
    replace D4 := D4.same s6
    replace D5 := D5.same s6
    generalize upd H5 t6 (.tup [.non]) = H6 at s6 D6 p6 B6 D1 D2 D3 D4 D5 ⊢
    replace sS := sS.trans s6
    refine ⟨(show 1 ≤ sizeLine by decide), fun t7 n7 => ?_⟩
    obtain ⟨s7, D7⟩ := new_tupN (E := EX a H) n7 (.cons (.str "0") .nil)
    have p7 := p6.keep s7
    have B7 := but_same B6 s7
    replace D1 := D1.same s7
    replace D2 := D2.same s7
    replace D3 := D3.same s7
    replace D4 := D4.same s7
    replace D5 := D5.same s7
    replace D6 := D6.same s7
    generalize upd H6 t7 (.tup [.str "0"]) = H7 at s7 D7 p7 B7 D1 D2 D3 D4 D5 D6 ⊢
    replace sS := sS.trans s7
    refine ⟨(show 1 ≤ sizeLine by decide), fun t8 n8 => ?_⟩
    obtain ⟨s8, D8⟩ := new_tupN (E := EX a H) n8 (.cons (.int 0) .nil)
    have p8 := p7.keep s8
    have B8 := but_same B7 s8
    replace D1 := D1.same s8
    replace D2 := D2.same s8
    replace D3 := D3.same s8
    replace D4 := D4.same s8
    replace D5 := D5.same s8
    replace D6 := D6.same s8
    replace D7 := D7.same s8
    generalize upd H7 t8 (.tup [.int 0]) = H8 at s8 D8 p8 B8 D1 D2 D3 D4 D5 D6 D7 ⊢
    replace sS := sS.trans s8
    refine ⟨(show 2 ≤ sizeLine by decide), fun t9 n9 => ?_⟩
    obtain ⟨s9, D9⟩ := new_tupN (E := EX a H) n9 (.cons (.int 0) (.cons D8 .nil))
    have p9 := p8.keep s9
    have B9 := but_same B8 s9
    replace D1 := D1.same s9
    replace D2 := D2.same s9
    replace D3 := D3.same s9
    replace D4 := D4.same s9
    replace D5 := D5.same s9
    replace D6 := D6.same s9
    replace D7 := D7.same s9
    replace D8 := D8.same s9
    generalize upd H8 t9 (.tup [.int 0, .ref t8]) = H9 at s9 D9 p9 B9 D1 D2 D3 D4 D5 D6 D7 D8 ⊢
    replace sS := sS.trans s9
    refine ⟨(show 2 ≤ sizeLine by decide), fun t10 n10 => ?_⟩
    obtain ⟨s10, D10⟩ := new_tupN (E := EX a H) n10 (.cons (.int 0) (.cons (.int 0) .nil))
    have p10 := p9.keep s10
    have B10 := but_same B9 s10
    replace D1 := D1.same s10
    replace D2 := D2.same s10
    replace D3 := D3.same s10
    replace D4 := D4.same s10
    replace D5 := D5.same s10
    replace D6 := D6.same s10
    replace D7 := D7.same s10
    replace D8 := D8.same s10
    replace D9 := D9.same s10
    generalize upd H9 t10 (.tup [.int 0, .int 0]) = H10 at s10 D10 p10 B10 D1 D2 D3 D4 D5 D6 D7 D8 D9 ⊢
    replace sS := sS.trans s10
    refine ⟨(show 1 ≤ sizeLine by decide), fun t11 n11 => ?_⟩
    obtain ⟨s11, D11⟩ := new_tupN (E := EX a H) n11 (.cons D10 .nil)
    have p11 := p10.keep s11
    have B11 := but_same B10 s11
    replace D1 := D1.same s11
    replace D2 := D2.same s11
    replace D3 := D3.same s11
    replace D4 := D4.same s11
    replace D5 := D5.same s11
    replace D6 := D6.same s11
    replace D7 := D7.same s11
    replace D8 := D8.same s11
    replace D9 := D9.same s11
    replace D10 := D10.same s11
    generalize upd H10 t11 (.tup [.ref t10]) = H11 at s11 D11 p11 B11 D1 D2 D3 D4 D5 D6 D7 D8 D9 D10 ⊢
    replace sS := sS.trans s11
    refine ⟨(show 2 ≤ sizeLine by decide), fun t12 n12 => ?_⟩
    obtain ⟨s12, D12⟩ := new_tupN (E := EX a H) n12 (.cons (.bl true) (.cons (.bl false) .nil))
    have p12 := p11.keep s12
    have B12 := but_same B11 s12
    replace D1 := D1.same s12
    replace D2 := D2.same s12
    replace D3 := D3.same s12
    replace D4 := D4.same s12
    replace D5 := D5.same s12
    replace D6 := D6.same s12
    replace D7 := D7.same s12
    replace D8 := D8.same s12
    replace D9 := D9.same s12
    replace D10 := D10.same s12
    replace D11 := D11.same s12
    generalize upd H11 t12 (.tup [.bl true, .bl false]) = H12 at s12 D12 p12 B12 D1 D2 D3 D4 D5 D6 D7 D8 D9 D10 D11 ⊢
    replace sS := sS.trans s12
    refine ⟨(show 16 ≤ sizeLine by decide), fun L nL mL => ?_⟩
    have sL := same_new (o := HO.lst [V.non, .bl true, .int 0, .int (-1), .str "", .str "0 1", .ref t1, .ref t2, .ref t3, .ref t4, .ref t5, .ref t6, .ref t7, .ref t9, .ref t11, .ref t12]) nL
    have eL : (upd H12 L (HO.lst [V.non, .bl true, .int 0, .int (-1), .str "", .str "0 1", .ref t1, .ref t2, .ref t3, .ref t4, .ref t5, .ref t6, .ref t7, .ref t9, .ref t11, .ref t12])) L = some (HO.lst [V.non, .bl true, .int 0, .int (-1), .str "", .str "0 1", .ref t1, .ref t2, .ref t3, .ref t4, .ref t5, .ref t6, .ref t7, .ref t9, .ref t11, .ref t12]) := upd_same
    have pL := p12.keep sL
    have BL := but_same B12 sL
    replace D1 := D1.same sL
    replace D2 := D2.same sL
    replace D3 := D3.same sL
    replace D4 := D4.same sL
    replace D5 := D5.same sL
    replace D6 := D6.same sL
    replace D7 := D7.same sL
    replace D8 := D8.same sL
    replace D9 := D9.same sL
    replace D10 := D10.same sL
    replace D11 := D11.same sL
    replace D12 := D12.same sL
    replace sS := sS.trans sL
    generalize upd H12 L (HO.lst [V.non, .bl true, .int 0, .int (-1), .str "", .str "0 1", .ref t1, .ref t2, .ref t3, .ref t4, .ref t5, .ref t6, .ref t7, .ref t9, .ref t11, .ref t12]) = HL at sL eL pL BL sS D1 D2 D3 D4 D5 D6 D7 D8 D9 D10 D11 D12 ⊢
    dsimp only [List.set]
    refine ⟨.ref a, rfl, .ref L, rfl, (show 5 ≤ sizeLine by decide), fun t13 n13 => ?_⟩
    obtain ⟨s13, D13⟩ := new_tupN (E := EX a H) n13 (.cons (.int 0) (.cons (.int 0) (.cons (.int 0) (.cons (.int 0) (.cons (.int 0) .nil)))))
    have p13 := pL.keep s13
    have B13 := but_same BL s13
    replace D1 := D1.same s13
    replace D2 := D2.same s13
    replace D3 := D3.same s13
    replace D4 := D4.same s13
    replace D5 := D5.same s13
    replace D6 := D6.same s13
    replace D7 := D7.same s13
    replace D8 := D8.same s13
    replace D9 := D9.same s13
    replace D10 := D10.same s13
    replace D11 := D11.same s13
    replace D12 := D12.same s13
    generalize upd HL t13 (.tup [.int 0, .int 0, .int 0, .int 0, .int 0]) = H13 at s13 D13 p13 B13 D1 D2 D3 D4 D5 D6 D7 D8 D9 D10 D11 D12 ⊢
    replace sS := sS.trans s13
    replace eL := s13 _ _ eL
    refine ⟨1, rfl, (show 1 ≤ sizeLine by decide), fun t14 n14 => ?_⟩
    obtain ⟨s14, D14⟩ := new_tupN (E := EX a H) n14 (.cons (.int (-1)) .nil)
    have p14 := p13.keep s14
    have B14 := but_same B13 s14
    replace D1 := D1.same s14
    replace D2 := D2.same s14
    replace D3 := D3.same s14
    replace D4 := D4.same s14
    replace D5 := D5.same s14
    replace D6 := D6.same s14
    replace D7 := D7.same s14
    replace D8 := D8.same s14
    replace D9 := D9.same s14
    replace D10 := D10.same s14
    replace D11 := D11.same s14
    replace D12 := D12.same s14
    replace D13 := D13.same s14
    generalize upd H13 t14 (.tup [.int (-1)]) = H14 at s14 D14 p14 B14 D1 D2 D3 D4 D5 D6 D7 D8 D9 D10 D11 D12 D13 ⊢
    replace sS := sS.trans s14
    replace eL := s14 _ _ eL
    refine ⟨10, 30, rfl, rfl, ⟨by decide, by decide, by decide⟩, _, 1, rfl, rfl, (show 1 ≤ sizeLine by decide), fun t15 n15 => ?_⟩
    obtain ⟨s15, D15⟩ := new_tupN (E := EX a H) n15 (.cons (.int (10 ^ (30 : Int).toNat - 1)) .nil)
    have p15 := p14.keep s15
    have B15 := but_same B14 s15
    replace D1 := D1.same s15
    replace D2 := D2.same s15
    replace D3 := D3.same s15
    replace D4 := D4.same s15
    replace D5 := D5.same s15
    replace D6 := D6.same s15
    replace D7 := D7.same s15
    replace D8 := D8.same s15
    replace D9 := D9.same s15
    replace D10 := D10.same s15
    replace D11 := D11.same s15
    replace D12 := D12.same s15
    replace D13 := D13.same s15
    replace D14 := D14.same s15
    generalize upd H14 t15 (.tup [.int (10 ^ (30 : Int).toNat - 1)]) = H15 at s15 D15 p15 B15 D1 D2 D3 D4 D5 D6 D7 D8 D9 D10 D11 D12 D13 D14 ⊢
    replace sS := sS.trans s15
    replace eL := s15 _ _ eL
    refine ⟨(show 0 ≤ sizeLine by decide), fun t16 n16 m16 => ?_⟩
    obtain ⟨s16, D16⟩ := new_lstN B15 n16 m16 p15 .nil
    have p16 := p15.keep s16
    have B16 := but_same B15 s16
    replace D1 := D1.same s16
    replace D2 := D2.same s16
    replace D3 := D3.same s16
    replace D4 := D4.same s16
    replace D5 := D5.same s16
    replace D6 := D6.same s16
    replace D7 := D7.same s16
    replace D8 := D8.same s16
    replace D9 := D9.same s16
    replace D10 := D10.same s16
    replace D11 := D11.same s16
    replace D12 := D12.same s16
    replace D13 := D13.same s16
    replace D14 := D14.same s16
    replace D15 := D15.same s16
    generalize upd H15 t16 (.lst []) = H16 at s16 D16 p16 B16 D1 D2 D3 D4 D5 D6 D7 D8 D9 D10 D11 D12 D13 D14 D15 ⊢
    replace sS := sS.trans s16
    replace eL := s16 _ _ eL
    refine ⟨(show 2 ≤ sizeLine by decide), fun t17 n17 => ?_⟩
    obtain ⟨s17, D17⟩ := new_tupN (E := EX a H) n17 (.cons (.int 0) (.cons D16 .nil))
    have p17 := p16.keep s17
    have B17 := but_same B16 s17
    replace D1 := D1.same s17
    replace D2 := D2.same s17
    replace D3 := D3.same s17
    replace D4 := D4.same s17
    replace D5 := D5.same s17
    replace D6 := D6.same s17
    replace D7 := D7.same s17
    replace D8 := D8.same s17
    replace D9 := D9.same s17
    replace D10 := D10.same s17
    replace D11 := D11.same s17
    replace D12 := D12.same s17
    replace D13 := D13.same s17
    replace D14 := D14.same s17
    replace D15 := D15.same s17
    replace D16 := D16.same s17
    generalize upd H16 t17 (.tup [.int 0, .ref t16]) = H17 at s17 D17 p17 B17 D1 D2 D3 D4 D5 D6 D7 D8 D9 D10 D11 D12 D13 D14 D15 D16 ⊢
    replace sS := sS.trans s17
    replace eL := s17 _ _ eL
    refine ⟨(show 4 ≤ sizeLine by decide), fun M nM mM => ?_⟩
    have sM := same_new (o := HO.lst [V.ref t13, .ref t14, .ref t15, .ref t17]) nM
    have eM : (upd H17 M (HO.lst [V.ref t13, .ref t14, .ref t15, .ref t17])) M = some (HO.lst [V.ref t13, .ref t14, .ref t15, .ref t17]) := upd_same
    have pM := p17.keep sM
    have BM := but_same B17 sM
    replace D1 := D1.same sM
    replace D2 := D2.same sM
    replace D3 := D3.same sM
    replace D4 := D4.same sM
    replace D5 := D5.same sM
    replace D6 := D6.same sM
    replace D7 := D7.same sM
    replace D8 := D8.same sM
    replace D9 := D9.same sM
    replace D10 := D10.same sM
    replace D11 := D11.same sM
    replace D12 := D12.same sM
    replace D13 := D13.same sM
    replace D14 := D14.same sM
    replace D15 := D15.same sM
    replace D16 := D16.same sM
    replace D17 := D17.same sM
    replace sS := sS.trans sM
    generalize upd H17 M (HO.lst [V.ref t13, .ref t14, .ref t15, .ref t17]) = HM at sM eM pM BM sS D1 D2 D3 D4 D5 D6 D7 D8 D9 D10 D11 D12 D13 D14 D15 D16 D17 ⊢
    replace eL := sM _ _ eL
    refine ⟨L, M, _, _, rfl, rfl, eL, eM, (show 20 ≤ sizeLine by decide), fun N nN mN => ?_⟩
    have sN := same_new (o := HO.lst ([V.non, .bl true, .int 0, .int (-1), .str "", .str "0 1", .ref t1, .ref t2, .ref t3, .ref t4, .ref t5, .ref t6, .ref t7, .ref t9, .ref t11, .ref t12] ++ [V.ref t13, .ref t14, .ref t15, .ref t17])) nN
    have eN : (upd HM N (HO.lst ([V.non, .bl true, .int 0, .int (-1), .str "", .str "0 1", .ref t1, .ref t2, .ref t3, .ref t4, .ref t5, .ref t6, .ref t7, .ref t9, .ref t11, .ref t12] ++ [V.ref t13, .ref t14, .ref t15, .ref t17]))) N = some (HO.lst ([V.non, .bl true, .int 0, .int (-1), .str "", .str "0 1", .ref t1, .ref t2, .ref t3, .ref t4, .ref t5, .ref t6, .ref t7, .ref t9, .ref t11, .ref t12] ++ [V.ref t13, .ref t14, .ref t15, .ref t17])) := upd_same
    have pN := pM.keep sN
    have nNa := pM.ne nN
    replace D1 := D1.same sN
    replace D2 := D2.same sN
    replace D3 := D3.same sN
    replace D4 := D4.same sN
    replace D5 := D5.same sN
    replace D6 := D6.same sN
    replace D7 := D7.same sN
    replace D8 := D8.same sN
    replace D9 := D9.same sN
    replace D10 := D10.same sN
    replace D11 := D11.same sN
    replace D12 := D12.same sN
    replace D13 := D13.same sN
    replace D14 := D14.same sN
    replace D15 := D15.same sN
    replace D16 := D16.same sN
    replace D17 := D17.same sN
    replace sS := sS.trans sN
    generalize upd HM N (HO.lst ([V.non, .bl true, .int 0, .int (-1), .str "", .str "0 1", .ref t1, .ref t2, .ref t3, .ref t4, .ref t5, .ref t6, .ref t7, .ref t9, .ref t11, .ref t12] ++ [V.ref t13, .ref t14, .ref t15, .ref t17])) = HN at eN pN sS D1 D2 D3 D4 D5 D6 D7 D8 D9 D10 D11 D12 D13 D14 D15 D16 D17 ⊢
    refine ⟨a, N, _, c, rfl, pN, nNa, .inl (.inl (.inl eN)), (show 1 ≤ 20 by decide), (show 20 ≤ 1000000 by decide), by omega, fun x H9 hx b9 p9 => ?_⟩
    have hx' : ∃ d, DaN (EX a H) HN x d ∧ Sm d 1100 5 := by
      simp only [List.cons_append, List.nil_append, List.mem_cons, List.not_mem_nil, or_false] at hx
      rcases hx with rfl | rfl | rfl | rfl | rfl | rfl | rfl | rfl | rfl | rfl | rfl | rfl | rfl | rfl | rfl | rfl | rfl | rfl | rfl | rfl
      · exact ⟨_, .non, Sm.none.mono (by decide) (by decide)⟩
      · exact ⟨_, .bl _, (Sm.bool _).mono (by decide) (by decide)⟩
      · exact ⟨_, .int _, (Sm.int (by decide +kernel)).mono (by decide) (by decide)⟩
      · exact ⟨_, .int _, (Sm.int (by decide +kernel)).mono (by decide) (by decide)⟩
      · exact ⟨_, .str _, ⟨by decide +kernel, by decide +kernel, by decide +kernel, by decide +kernel⟩⟩
      · exact ⟨_, .str _, ⟨by decide +kernel, by decide +kernel, by decide +kernel, by decide +kernel⟩⟩
      · exact ⟨_, D1, ⟨by decide +kernel, by decide +kernel, by decide +kernel, by decide +kernel⟩⟩
      · exact ⟨_, D2, ⟨by decide +kernel, by decide +kernel, by decide +kernel, by decide +kernel⟩⟩
      · exact ⟨_, D3, ⟨by decide +kernel, by decide +kernel, by decide +kernel, by decide +kernel⟩⟩
      · exact ⟨_, D4, ⟨by decide +kernel, by decide +kernel, by decide +kernel, by decide +kernel⟩⟩
      · exact ⟨_, D5, ⟨by decide +kernel, by decide +kernel, by decide +kernel, by decide +kernel⟩⟩
      · exact ⟨_, D6, ⟨by decide +kernel, by decide +kernel, by decide +kernel, by decide +kernel⟩⟩
      · exact ⟨_, D7, ⟨by decide +kernel, by decide +kernel, by decide +kernel, by decide +kernel⟩⟩
      · exact ⟨_, D9, ⟨by decide +kernel, by decide +kernel, by decide +kernel, by decide +kernel⟩⟩
      · exact ⟨_, D11, ⟨by decide +kernel, by decide +kernel, by decide +kernel, by decide +kernel⟩⟩
      · exact ⟨_, D12, ⟨by decide +kernel, by decide +kernel, by decide +kernel, by decide +kernel⟩⟩
      · exact ⟨_, D13, ⟨by decide +kernel, by decide +kernel, by decide +kernel, by decide +kernel⟩⟩
      · exact ⟨_, D14, ⟨by decide +kernel, by decide +kernel, by decide +kernel, by decide +kernel⟩⟩
      · exact ⟨_, D15, ⟨by decide +kernel, by decide +kernel, by decide +kernel, by decide +kernel⟩⟩
      · exact ⟨_, D17, ⟨by decide +kernel, by decide +kernel, by decide +kernel, by decide +kernel⟩⟩
    obtain ⟨dx, Dx, Sx⟩ := hx'
    exact q x dx H9 ((But.of sS).trans b9) p9 (DaN.but Dx pN b9) Sx
end
end K66

set_option Elab.async false
set_option linter.all false
set_option maxRecDepth 100000
set_option maxHeartbeats 1000000
/-! A try with several clauses 'except x as n', and making an instance whose __init__ raises. -/
namespace NB
open PySem PySem.Spec PyProof.Rows L2

/-- what the clauses wish of an exception of the body, one after the other; slot i is the name's -/
def wClauses (K : PySem.W.Frag) (Wout : WX) (D : Ends) (i : Nat) : List (Value × (Addr → Value → Option Addr → TS)) → WX
  | [] => Wout
  | (c, ts) :: r => fun cls d σ H => ∃ b, PySem.W.exmOne K cls c = some b ∧
      (b = true → ∀ a, H a = none → ts a cls d { nx := fun σ' H' => D.nx (σ'.set i none) H', rt := D.rt, bk := fun σ' H' => D.bk (σ'.set i none) H', ct := fun σ' H' => D.ct (σ'.set i none) H' } (σ.set i (some (.ref a))) H) ∧
      (b = false → wClauses K Wout D i r cls d σ H)
inductive ClsOk (X : Cx) (n : Str) : List ExceptHandler → List (Value × (Addr → Value → Option Addr → TS)) → Prop
  | nil : ClsOk X n [] []
  | cons {x : Str} {c : Value} {ts : Addr → Value → Option Addr → TS} {b₀ : Stmt} {suite : List Stmt} {np pos' : Pos} {hds : List ExceptHandler} {l : List (Value × (Addr → Value → Option Addr → TS))} (hc : Names X x c)
      (hsu : ∀ (a : Addr) (oe : Obj) (cls : Value) (d : Option Addr) (pn : List (Addr × Obj)), Zc cls d oe → (∃ vs, oe.data = .fields vs) → PSs (X.suite a ((a, oe) :: pn)) (b₀ :: suite) (ts a cls d)) (r : ClsOk X n hds l) :
      ClsOk X n (.ExceptHandler (some (.Name x np)) (some n) (b₀ :: suite) pos' :: hds) ((c, ts) :: l)
section
variable {X : Cx} {n : Str} {i : Nat} {body : List Stmt} {h₀ : ExceptHandler} {hds : List ExceptHandler} {l : List (Value × (Addr → Value → Option Addr → TS))} {pos : Pos} {tb : WX → TS} {Wout : WX}
theorem ps_try_clauses (hs : X.stack = X.env :: X.outer) (hf : X.env.frame = some X.env.locals) (hN : X.N.Nodup) (hi : X.N[i]? = some n) (hln : X.env.kindOf n = some .local) (tk : Takes X Wout)
    (hb : ∀ (W : WX) (pn : List (Addr × Obj)) (xe : Value → Shared → Prop), Takes (X.tr pn xe) W → PassesOwn (model X.prog X.w) X.A X.env xe → PSs (X.tr pn xe) body (tb W))
    (hh : ClsOk X n (h₀ :: hds) l) : PS X (.Try body (h₀ :: hds) [] [] pos) (fun D σ H => tb (wClauses X.K Wout D i l) D σ H) := by
  refine ⟨fun pins s σ H D I h => ?_⟩
  have ok := I.ok
  have hfr : X.A.frames = some (X.env :: X.outer) := by rw [ok.frames, hs]
  have hloc : Loc X.env.scope n := .inl hln
  refine wpAny_Try_except ?_
  refine wpAny_mono ((hb (wClauses X.K Wout D i l) (X.pn ++ pins) (fun e s₁ => wpAny (model X.prog X.w) X.A (noteFrame e X.env) (fun _ s₂ => wpAny (model X.prog X.w) X.A (setFlight e none) (fun _ s₃ =>
    wpAny (model X.prog X.w) X.A (handleBy e X.env (h₀ :: hds)) (SP X pins D) X.xe s₃) X.xe s₂) X.xe s₁) (fun u s' xx => ?_) PassesOwn.looking).run [] s σ H D (I.toTry _) h) (fun f s1 hsp => ?_) (fun e s1 he => he)
  · obtain ⟨a, B, sI, pins', σ', H', cls, d, rfl, J', nb, up, sky, na, os, ag, w⟩ := xx
    have J : Inv X pins σ' H' sI := J'.ofTry ok
    have sky' : Sky B (X.env :: X.outer) a (Zc cls d) X.env.locals s'.heap := by rw [← hs]; exact sky
    show wpAny (model X.prog X.w) X.A (noteFrame (.ref a) X.env) _ _ _
    refine Sky.land Zc.steady hfr hf sky' fun g3 l3 u3 => ?_
    have J3 : Inv X pins σ' H' { s' with heap := g3 } := J.landed nb l3.1 (up.trans u3) os ag
    obtain ⟨o3, v3, q3, z3, d3⟩ := l3.there
    have out : a ∉ frs (X.env :: X.outer) := fun hm => by
      obtain ⟨_, o', e', hnf⟩ := l3.2.2.1.mem hm
      rw [q3] at e'
      cases e'
      exact hnf _ d3
    have nL : a ≠ X.env.locals := fun z => out (List.mem_filterMap.mpr ⟨X.env, List.mem_cons_self, by rw [hf, z]⟩)
    have nF : a ∉ X.fs := fun hm => by
      obtain ⟨e, he, q⟩ := List.mem_filterMap.mp hm
      exact out (List.mem_filterMap.mpr ⟨e, List.mem_cons_of_mem _ he, q⟩)
    have S3 := J3.suite q3 d3 na nL nF
    have go : ∀ {hds' : List ExceptHandler} {l' : List (Value × (Addr → Value → Option Addr → TS))}, ClsOk X n hds' l' → wClauses X.K Wout D i l' cls d σ' H' →
        wpAny (model X.prog X.w) X.A (handleBy (.ref a) X.env hds') (SP X pins D) X.xe { s' with heap := g3 } := by
      intro hds' l' hk
      induction hk with
      | nil =>
        intro w
        refine wpAny_handleBy_nil ?_
        obtain ⟨k1, k2, k3, oe, vs, T, oT, ts', he, hz, hd, h1, hr⟩ := id l3
        unfold PySem.passOn
        refine wpAny_bind (wpAny_field he hd h1 ?_)
        rw [if_neg (show ¬ ((Value.ref T == Value.none) = true) from by simp)]
        have fin : wpAny (model X.prog X.w) X.A (setFlight (.ref a) X.env.frame) (fun _ s4 => wpAny (model X.prog X.w) X.A (throw (.ref a) : Sem Flow) (SP X pins D) X.xe s4) X.xe { s' with heap := g3 } := by
          rw [hf]
          refine HandSPX.setFlight_upZ l3 fun g4 q4 u4 => wpAny_throw (tk _ _ ?_)
          exact ⟨a, B, sI, pins, σ', H', cls, d, rfl, J, nb, (up.trans u3).trans u4, .inr (.inr (by rw [hs]; exact q4)), na, os, ag, w⟩
        first
          | exact wpAny_bind (wpAny_pure (wpAny_bind fin))
          | exact wpAny_bind fin
      | @cons x c ts b₀ suite np pos' hds2 l2 hc hsu r ih =>
        intro w
        obtain ⟨b, hb1, hyes, hno⟩ := w
        refine wpAny_handleBy_cons (codeAny_handlers_test ?_) (by intro q; cases q)
        have LT : PySem.W.Looks (model X.prog X.w) g3 (typeOf (.ref a)) cls := fun A Q E s k q => wpAny_typeOf_ref (k _ _ q3) (by rw [z3.1]; exact q)
        have LM := PySem.W.exm_one (M := model X.prog X.w) (J3.kIn) LT hb1
        have test : ∀ {Q : Value → Shared → Prop} {E : Value → Shared → Prop}, Q c { s' with heap := g3 } → wpAny (model X.prog X.w) (X.A.mark (some (.ref a))) (eval (.Name x np) X.env) Q E { s' with heap := g3 } := fun {Q E} q => by
          obtain ⟨hg, hdbg, hm | ⟨hm, hv, hnn⟩⟩ := hc
          · exact ld_glob (X := X.suite a ((a, o3) :: (X.pn ++ pins))) S3 hg hm q hdbg
          · exact ld_blt (X := X.suite a ((a, o3) :: (X.pn ++ pins))) S3 hg hm hv q hnn hdbg
        refine test (LM.here ?_)
        cases b with
        | true =>
          refine codeAny_handlers_suite_as ?_
          refine HandSPX.lands_againZ l3 fun g4 l4 u4 => ?_
          have J4 : Inv X pins σ' H' { s' with heap := g4 } := J.landed nb l4.1 ((up.trans u3).trans u4) os ag
          obtain ⟨o4, v4, q4, z4, d4⟩ := l4.there
          have S4 := J4.suite q4 d4 na nL nF
          refine store_ok (X := X.suite a ((a, o4) :: (X.pn ++ pins))) (v := .ref a) S4 hN hi hloc rfl (fun s5 S5 => ?_) (.inr hln)
          refine wpAny_mono ((hsu a o4 cls d (X.pn ++ pins) z4 ⟨_, d4⟩).run [] s5 _ H' _ S5 (hyes rfl a na)) (fun f s6 hsp => ?_) (fun _ _ z => False.elim z)
          have ends : ∀ {σ6 : L2.St} {H6 : Hp} {Q : Shared → Prop}, Inv (X.suite a ((a, o4) :: (X.pn ++ pins))) [] σ6 H6 s6 → (∀ s7, Inv X pins (σ6.set i none) H6 s7 → Q s7) →
              wpAny (model X.prog X.w) X.A (do bindName X.env n .none; unbindBehindTheSuite X.env n pos') (fun _ s7 => Q s7) X.xe s6 := fun {σ6 H6 Q} S6 hq => gone_ok (S6.unsuite ok) hN hi hln hq
          cases f with
          | next =>
            obtain ⟨σ6, H6, S6, q6⟩ := hsp
            exact ends S6 fun s7 J7 => ⟨_, _, J7, q6⟩
          | brk =>
            obtain ⟨σ6, H6, S6, q6⟩ := hsp
            exact ends S6 fun s7 J7 => ⟨_, _, J7, q6⟩
          | cont =>
            obtain ⟨σ6, H6, S6, q6⟩ := hsp
            exact ends S6 fun s7 J7 => ⟨_, _, J7, q6⟩
          | ret u =>
            obtain ⟨v6, σ6, H6, S6, r6, q6⟩ := hsp
            exact ends S6 fun s7 J7 => ⟨_, _, _, J7, r6, q6⟩
        | false =>
          show wpAny _ X.A (handleBy (.ref a) X.env hds2) _ _ _
          exact ih (hno rfl)
    exact go hh w
  · cases f with
    | next =>
      obtain ⟨σ', H', J', q⟩ := hsp
      exact wpAny_execs_nil ⟨σ', H', J'.ofTry ok, q⟩
    | brk =>
      obtain ⟨σ', H', J', q⟩ := hsp
      exact ⟨σ', H', J'.ofTry ok, q⟩
    | cont =>
      obtain ⟨σ', H', J', q⟩ := hsp
      exact ⟨σ', H', J'.ofTry ok, q⟩
    | ret u =>
      obtain ⟨v, σ', H', J', r, q⟩ := hsp
      exact ⟨v, σ', H', J'.ofTry ok, r, q⟩
end
section
variable {X : Cx} {k : Nat} {f C : Addr} {fd : FuncData} {ps : List Str} {sp : Sp} {x : Str} {p pos : Pos} {e : Expr} {es : List Expr} {t : TA} {W : WX}
/-- C(..) within a try -/
def tMakeS (C : Addr) (sp : Sp) (E : L2.St → XK) (t : TA) : TE := fun σ H Q => t σ H fun vs H1 => ∀ x dx, H1 x = none → H1 dx = none → dx ≠ x →
  sp (.ref x :: vs) (upd (upd H1 dx (.own x)) x (.ins C dx [])) (fun v H2 => v = .non ∧ Q (.ref x) H2) (E σ)
theorem pe_makeS (M : Mk X.K C f) (F : FnOk X.prog X.w X.K X.mg X.base (L2.CX X.prog X.w) k f fd ps sp) (hr : Room (k + 1) X.A) (hg : Gl X x) (hm : X.mg x = some (.ref C)) (hb : Binds X.K fd ps []) (tk : Takes X W)
    (ha : PA X (e :: es) t) (hdb : (x == ("__debug__" : Str)) = false := by decide) (he : starEach (e :: es) X.env = (false, eval e X.env) :: starEach es X.env := by rfl) (hpl : (backTo pos (starEach es X.env)).any (·.1) = false := by rfl) :
    PE X (.Call (.Name x p) (e :: es) [] pos) (tMakeS C sp (WE W) t) := by
  refine ⟨fun pins s σ H Q I h => ?_⟩
  refine wpAny_Call_Name_kw (ld_glob I hg hm ?_ hdb)
  refine PySem.W.callWith_K (h₀ := X.base) I.ok.mod.kin M.kp (thn (ha.run pos pins s σ H _ I h) fun us s1 ⟨vs, H1, I1, r, q⟩ => ⟨I1.kIn, ?_⟩) he hpl
  have hq := q (s1.heap.objs.size + 1) s1.heap.objs.size (I1.hok.fresh (Nat.le_succ _)) (I1.hok.fresh (Nat.le_refl _)) (Nat.ne_of_lt (Nat.lt_succ_self _))
  have I2 := Inv.made (C := C) I1
  have r2 : Vals (V.ref (s1.heap.objs.size + 1) :: vs) (Value.ref (s1.heap.objs.size + 1) :: us) := .cons rfl r
  have hl : (Value.ref (s1.heap.objs.size + 1) :: us).length = ps.length := by rw [← r2.length]; exact F.len _ _ _ _ hq
  have hbb := hb _ (Value.ref (s1.heap.objs.size + 1) :: us) I2.kIn (by rw [List.append_nil]; exact hl)
  rw [List.append_nil] at hbb
  refine wpAny_call (make_map (f := f) I1.kIn M.makes M.init (beq_iff_eq.mp M.fn) (codeAny_mono (F.run _ X.stack _ _ ⟨Value.ref (s1.heap.objs.size + 1) :: us, []⟩ (Value.ref (s1.heap.objs.size + 1) :: us) _ _ (WE W σ) (hr.make C us [])
    (I2.env0.make C us []) hbb r2 hq) fun r s' hq' => ?_))
  cases r with
  | error e => exact passAt tk σ pins _ _ e s' I2 hq'
  | ok fl =>
    cases fl with
    | ret u =>
      obtain ⟨v, H', I3, rv, ev, q3⟩ := I2.after hq'
      subst ev
      exact ⟨rv, ⟨V.ref (s1.heap.objs.size + 1), H', I3, rfl, q3⟩⟩
    | next => exact False.elim hq'
    | brk => exact False.elim hq'
    | cont => exact False.elim hq'
end
end NB

set_option Elab.async false
set_option linter.all false
set_option maxRecDepth 100000
namespace K66
open PySem PySem.Spec PyProof.Rows L2 NB

/-! ### a hall, or the word and value of its refusal -/
structure Exm3 (K : PySem.W.Frag) (CNP CN CB : Addr) : Prop where
  f1 : PySem.W.exmOne K (.ref CN) (.ref CNP) = some false
  f2 : PySem.W.exmOne K (.ref CB) (.ref CNP) = some false
  f3 : PySem.W.exmOne K (.ref CB) (.ref CN) = some false
section
variable {P : Program} {w : World} {K : PySem.W.Frag} {mg : Str → Option Value} {base : Heap}
def spMade (CH CS C CP : Addr) : Sp := fun vs H Q _ => ∃ (n : Addr) (v1 v2 : V) (d : PyData), vs = [v1, v2] ∧ Da n H v2 d ∧
  ((∃ d1, Da n H v1 d1 ∧ ∀ H' g, Same H H' → H' g = some (.tup [.str "plan", .str "plan"]) → Q (.ref g) H') ∨
   (∃ (xp : Addr) (tops : List Int) (rs : List Rl), v1 = .ref xp ∧ PlanAt CP H xp tops rs ∧ tops.length ≤ 12 ∧ rs.length ≤ 40 ∧ (∀ q ∈ rs, RuleOk tops q) ∧
    (standingD tops d = false → ∀ H' g, Same H H' → H' g = some (.tup [.str "standing", v2]) → Q (.ref g) H') ∧
    (standingD tops d = true → brok (numsD d) rs ≠ [] → ∀ H' g q, Same H H' → H' g = some (.tup [.str "broken", .ref q]) → H' q = some (.tup ((brok (numsD d) rs).map V.int)) → Q (.ref g) H') ∧
    (standingD tops d = true → brok (numsD d) rs = [] → ∀ H' g x s p own, Same H H' → H' g = some (.tup [.str "hall", .ref x]) → HallAt CH CS C H' x s p own (firstS tops (numsD d) rs) → H' p = some (.tup []) → Q (.ref g) H')))
abbrev a__law_made : Stmt := topS 70
abbrev n__law_made : List Str := ["_law_plan", "_law_standing_here", "_law_found", "e"]
theorem sc__law_made : FnScope n__law_made ["_law_plan", "_law_standing_here"] (defScope a__law_made) := ⟨rfl, rfl, rfl, by decide +kernel, rfl, by decide +kernel, by decide +kernel⟩
set_option maxHeartbeats 8000000 in
theorem ok__law_made {f  : Addr} {fd  : FuncData} {k : Nat} {CH CS C CP CNP CN CB fP fN fB fH : Addr} {fdP fdN fdB fdH : FuncData} (F : Fun K "_law_made" "_law_made" a__law_made f fd)  (TP : ExT K mg "NoPlan" "field" CNP fP fdP) (TN : ExT K mg "NoStanding" "thing" CN fN fdN) (TB : ExT K mg "Broken" "rules" CB fB fdB) (X3 : Exm3 K CNP CN CB) (MH : Mk K CH fH) (GH : FnOk P w K mg base (L2.CX P w) 6 fH fdH ["self", "plan", "standing"] (spHaInit CH CS C CP CNP CN CB)) (bH : Binds K fdH ["self", "plan", "standing"] []) (mgH : mg "Hall" = some (.ref CH))  : FnOk P w K mg base CX0 (k + 8) f fd ["_law_plan", "_law_standing_here"] (spMade CH CS C CP) := by
  refine F.ok sc__law_made (fun vs H Q E h => ?_) (fun cdv A outer s H vs Q E hr h => ?_)
  · obtain ⟨n, v1, v2, d, rfl, _⟩ := h
    rfl
  · obtain ⟨n, v1, v2, d, rfl, hd, alt⟩ := h
    refine ⟨_, (pss_cons (ps_try_clauses (i := 3) (tb := fun W => tAsg (tTup (tCons (tC (.str "hall")) (tCons (tMakeS CH (spHaInit CH CS C CP CNP CN CB) (WE W) (tCons (tVar 0) (tCons (tVar 1) tNil))) tNil))) (gName 2)) (l := [(.ref CNP, fun a cls d => tAsg (tTup (tCons (tC (.str "plan")) (tCons (tXf a cls d CNP "field" (tVar 3)) tNil))) (gName 2)), (.ref CN, fun a cls d => tAsg (tTup (tCons (tC (.str "standing")) (tCons (tXf a cls d CN "thing" (tVar 3)) tNil))) (gName 2)), (.ref CB, fun a cls d => tAsg (tTup (tCons (tC (.str "broken")) (tCons (tXf a cls d CB "rules" (tVar 3)) tNil))) (gName 2))]) (Wout := fun _ _ _ _ => False) rfl rfl sc__law_made.nd rfl rfl takes0 (fun W pn xe tk _ => pss_one (ps_set (i := 2) sc__law_made.nd rfl (Or.inl rfl) (by exact (pe_tup (pa_cons pe_str (pa_cons (pe_makeS MH GH (hr.mono (by omega)) (by rfl) mgH bH tk (pa_cons (pv 0) (pa_cons (pv 1) pa_nil))) pa_nil)))))) (.cons ⟨rfl, by decide, Or.inl TP.gC⟩ (fun a oe cls d pn hz hf => pss_one (ps_set (i := 2) sc__law_made.nd rfl (Or.inl rfl) (by exact (pe_tup (pa_cons pe_str (pa_cons (pe_xf TP.xf TP.noN hz hf (pv 3)) pa_nil)))))) (.cons ⟨rfl, by decide, Or.inl TN.gC⟩ (fun a oe cls d pn hz hf => pss_one (ps_set (i := 2) sc__law_made.nd rfl (Or.inl rfl) (by exact (pe_tup (pa_cons pe_str (pa_cons (pe_xf TN.xf TN.noN hz hf (pv 3)) pa_nil)))))) (.cons ⟨rfl, by decide, Or.inl TB.gC⟩ (fun a oe cls d pn hz hf => pss_one (ps_set (i := 2) sc__law_made.nd rfl (Or.inl rfl) (by exact (pe_tup (pa_cons pe_str (pa_cons (pe_xf TB.xf TB.noN hz hf (pv 3)) pa_nil)))))) .nil))))
      (pss_one (ps_ret (pv 2)))), ?_⟩
    refine ⟨v1, rfl, v2, rfl, fun x dx nx ndx ne => ?_⟩
    have s1 : Same H (upd (upd H dx (.own x)) x (.ins CH dx [])) := (same_new ndx).trans (same_new (by rw [upd_ne ne.symm]; exact nx))
    have ex : (upd (upd H dx (.own x)) x (.ins CH dx [])) x = some (.ins CH dx []) := upd_same
    have hd1 := hd.same s1
    generalize upd (upd H dx (.own x)) x (.ins CH dx []) = H1 at s1 ex hd1 ⊢
    rcases alt with ⟨d1, hd0, q⟩ | ⟨xp, tops, rs, rfl, hp, l12, l40, rok, e1, e2, q⟩
    · refine ⟨x, dx, n, v1, v2, d, rfl, ex, hd1, .inl ⟨d1, hd0.same s1, fun H2 dd s2 ed => ⟨true, TP.te, fun _ a na => ?_, fun z => Bool.noConfusion z⟩⟩⟩
      refine ⟨_, rfl, rfl, rfl, dd, _, .str "plan", rfl, ed, by simp [List.lookup], (show 2 ≤ sizeLine by decide), fun g ng => ?_⟩
      exact ⟨_, rfl, q _ g ((s1.trans s2).trans (same_new ng)) upd_same⟩
    · refine ⟨x, dx, n, _, v2, d, rfl, ex, hd1, .inr ⟨xp, tops, rs, rfl, hp.keep (.same s1), l12, l40, rok, fun c H2 dd s2 ed => ⟨false, X3.f1, (fun z => Bool.noConfusion z), fun _ => ⟨true, TN.te, fun _ a na => ?_, fun z => Bool.noConfusion z⟩⟩, fun c b H2 dd q2 s2 ed eq => ⟨false, X3.f2, (fun z => Bool.noConfusion z), fun _ => ⟨false, X3.f3, (fun z => Bool.noConfusion z), fun _ => ⟨true, TB.te, fun _ a na => ?_, fun z => Bool.noConfusion z⟩⟩⟩, fun c b H2 s p own k hx ep fr => ⟨rfl, ?_⟩⟩⟩
      · refine ⟨_, rfl, rfl, rfl, dd, _, v2, rfl, ed, by simp [List.lookup], (show 2 ≤ sizeLine by decide), fun g ng => ?_⟩
        exact ⟨_, rfl, e1 c _ g ((s1.trans s2).trans (same_new ng)) upd_same⟩
      · refine ⟨_, rfl, rfl, rfl, dd, _, .ref q2, rfl, ed, by simp [List.lookup], (show 2 ≤ sizeLine by decide), fun g ng => ?_⟩
        exact ⟨_, rfl, e2 c b _ g q2 ((s1.trans s2).trans (same_new ng)) upd_same (same_new ng _ _ eq)⟩
      · have s2 : Same H H2 := fun b o e => k b o (fun z => by rw [z, nx] at e; cases e) (s1 _ _ e)
        refine ⟨(show 2 ≤ sizeLine by decide), fun g ng => ?_⟩
        have sg := same_new (o := HO.tup [.str "hall", V.ref x]) ng
        exact ⟨_, rfl, q c b _ g x s p own (s2.trans sg) upd_same (hx.same sg) (sg _ _ ep)⟩
end
end K66

set_option Elab.async false
set_option linter.all false
set_option maxRecDepth 100000
set_option maxHeartbeats 1000000
/-! len(o), str(o) of an own instance whose class has __len__, __str__. -/
namespace NB
open PySem PySem.Sem PySem.Builtin PyProof.Rows L2
variable {X : Cx} {k : Nat} {C f : Addr} {fd : FuncData} {ps : List Str} {sp : Sp} {E : XK} {CX : CXT}
theorem run_own {n : Nat} {A1 : Around} {pins : List (Addr × Obj)} {σ : L2.St} {H : Hp} {s : Shared} {a : Addr} {Q : VK} {R : Value → Shared → Prop} (sb : Sub X n A1) (F : FnOk X.prog X.w X.K X.mg X.base CX n f fd ps sp) (hb : Binds X.K fd ps []) (hx : Passes CX X E)
    (I : Inv X pins σ H s) (hsp : sp [.ref a] H Q E) (hR : ∀ v H' u s', Inv X pins σ H' s' → RelV v u → Q v H' → R u s') : wpAny (model X.prog X.w) A1 (call (.ref f) [.ref a]) R X.xe s := by
  have e0 : Env0 X.prog X.w X.K X.mg X.base A1 X.stack s H := by
    have e := I.env0
    exact ⟨by rw [sb.fr]; exact e.frames, e.mod, e.bs, e.bsz, e.funs, e.frf, e.hok, e.bare⟩
  have hl := F.len _ _ _ _ hsp
  have r2 : Vals [V.ref a] [Value.ref a] := .cons rfl .nil
  refine wpAny_call (codeAny_mono (F.run A1 X.stack s H ⟨[.ref a], []⟩ [.ref a] [.ref a] Q E sb.room e0 (by
    have := hb s [.ref a] I.kIn (by simpa using hl)
    simpa using this) r2 hsp) fun r s' hq => ?_)
  cases r with
  | error e => exact hx pins σ H s e s' I hq
  | ok fl =>
    cases fl with
    | ret u =>
      obtain ⟨v, H', I', rv, q⟩ := I.after hq
      exact hR v H' u s' I' rv q
    | next => exact False.elim hq
    | brk => exact False.elim hq
    | cont => exact False.elim hq
/-- len(o) -/
theorem call_lenOwn (F : FnOk X.prog X.w X.K X.mg X.base CX k f fd ps sp) (hr : Room (k + 1) X.A) (hs : PySem.W.findIn X.K (.ref C) "__len__" = some (some (.ref f))) (hf : PySem.W.isFn X.K (.ref f) = true) (hb : Binds X.K fd ps []) (hx : Passes CX X E) :
    CallR X (.builtin "len") (fun xs H Q => ∃ a dx fs, xs = [.ref a] ∧ H a = some (.ins C dx fs) ∧ sp [.ref a] H (fun v H' => ∃ n : Int, v = .int n ∧ 0 ≤ n ∧ n < 2 ^ 63 ∧ Q (.int n) H') E) := by
  intro pins s σ H xs us Q I r h
  obtain ⟨a, dx, fs, rfl, ea, hsp⟩ := h
  obtain ⟨u, rfl, ru⟩ := vals1 r
  cases ru
  obtain ⟨mA, J, _⟩ := ins_get I.hok ea
  obtain ⟨od, J, _⟩ := J.look
  obtain ⟨m, hF⟩ := I.fr
  refine PySem.W.len_K hF I.ok.mod.kin J hs hf ?_
  refine run_own ⟨hr.in1, rfl⟩ F hb hx I hsp fun v H' u s' I' rv q => ?_
  obtain ⟨n, rfl, h0, h1, q⟩ := q
  obtain ⟨t, rfl⟩ := rv
  exact ⟨⟨h0, h1⟩, .int n, H', I'.tok _, ⟨_, rfl⟩, q⟩
/-- str(o) -/
theorem call_strOwn (F : FnOk X.prog X.w X.K X.mg X.base CX k f fd ps sp) (hr : Room (k + 2) X.A) (hs : PySem.W.findIn X.K (.ref C) "__str__" = some (some (.ref f))) (hf : PySem.W.isFn X.K (.ref f) = true) (hb : Binds X.K fd ps []) (hx : Passes CX X E) :
    CallR X (.type "str") (fun xs H Q => ∃ a dx fs, xs = [.ref a] ∧ H a = some (.ins C dx fs) ∧ sp [.ref a] H (fun v H' => ∃ z : Str, v = .str z ∧ Q (.str z) H') E) := by
  intro pins s σ H xs us Q I r h
  obtain ⟨a, dx, fs, rfl, ea, hsp⟩ := h
  obtain ⟨u, rfl, ru⟩ := vals1 r
  cases ru
  obtain ⟨mA, J, _⟩ := ins_get I.hok ea
  obtain ⟨od, J, _⟩ := J.look
  refine PySem.W.kso_call hr.in1.in1.units0 I.kIn J hs hf ?_
  refine run_own ⟨hr.in1.in1, rfl⟩ F hb hx I hsp fun v H' u s' I' rv q => ?_
  obtain ⟨z, rfl, q⟩ := q
  obtain ⟨t, rfl⟩ := rv
  exact ⟨.str z, H', I', ⟨_, rfl⟩, q⟩
end NB

set_option Elab.async false
set_option linter.all false
set_option maxRecDepth 100000
set_option maxHeartbeats 4000000
/-! tuple * int, once or more: once is the tuple itself. -/
namespace NB
open PySem PySem.Spec PyProof.Rows L2
theorem tuple_mul1 (l : Addr) (items : Array Value) (n : Nat) (dd : Option Addr) (sl : Array (Option Value)) (u : Tok) :
    Meets (Builtin.«tuple.__mul__» ⟨[.ref l, .int 1 u], []⟩) (fun _ R s => s.heap.get? l = some { cls := .type "tuple", dict := dd, data := .seq items n, slots := sl } ∧ R (.ok (.ret (Value.ref l))) s) :=
  .of_wp fun prog w A R s h => by
    obtain ⟨hp, g, d, tk, os⟩ := s
    obtain ⟨hl, h⟩ := h
    have f1 := AutoSeq1.idx_int
    have c0 : (decide ((1 : Int) < -(2 ^ 63)) || decide ((1 : Int) ≥ 2 ^ 63)) = false := by decide
    have c1 : (items.isEmpty || (1 : Int) == 1) = true := by rw [show ((1 : Int) == 1) = true from rfl, Bool.or_true]
    wp_walk using wpAny_loadPart' hl
    repeat (first
      | (refine wpAny_ite_false (decide_eq_false (by rw [c0]; exact Bool.false_ne_true)) ?_; wp_walk using wpAny_loadPart' hl)
      | (refine wpAny_ite_true (decide_eq_true (by rw [c1])) ?_; wp_walk using wpAny_loadPart' hl))
    exact ⟨_, rfl, h⟩
def rRepT1 (K : PySem.W.Frag) : R2 := fun x y H Q => ∃ l k xs, x = .ref l ∧ y = .int k ∧ SqT K H l xs ∧ xs ≠ [] ∧ 1 ≤ k ∧ k ≤ 1000 ∧ xs.length ≤ 1000 ∧ (k = 1 → Q (.ref l) H) ∧ (2 ≤ k → ∀ p, H p = none → Q (.ref p) (upd H p (.tup (List.replicate k.toNat xs).flatten)))
section
variable {X : Cx}
theorem op_repT1 : OpR X (binaryOp .Mult) (rRepT1 X.K) := by
  intro pins s σ H x y v u Q I rx ry h
  obtain ⟨l, k, xs, rfl, rfl, hT, hne, h1, h2, hz, q1, q2⟩ := h
  by_cases k2 : 2 ≤ k
  · exact op_repT pins s σ H _ _ v u Q I rx ry ⟨l, k, xs, rfl, rfl, hT, hne, k2, h2, hz, q2 k2⟩
  · obtain rfl : k = 1 := by omega
    cases rx
    obtain ⟨t, rfl⟩ := ry
    obtain ⟨its, r, ⟨⟨cls, dd, data, sl⟩, ho, hc, n, hd⟩, hs⟩ := I.tuple hT
    simp only at hc hd
    subst hc hd
    refine wpAny_binaryOp_repeat_ref (T := "tuple") (U := "int") (by decide) ⟨_, ho, rfl⟩ (fun s' => typeIs_int s' 1 t) noFill_tuple_mul F.fills_int_mul F.slot_int_rmul repeat_tuple F.slot_int_index.lookup
      (call_meets F.slot_int_rmul (typeIs_int s 1 t) F.entry_int_rmul (F.args_int_rmul_2 _ _) (int_rmul_tuple 1 t l its.toArray n dd sl)
        ⟨ho, rfl, ⟨_, ho, rfl⟩, call_meets F.slot_tuple_mul ⟨_, ho, rfl⟩ F.entry_tuple_mul (F.args_tuple_mul_2 _ _) (tuple_mul1 l its.toArray n dd sl t) ⟨ho, ?_⟩⟩)
    exact ⟨.ref l, H, I, rfl, q1 rfl⟩
end
end NB

set_option Elab.async false
set_option linter.all false
set_option maxRecDepth 100000
namespace K66
open PySem PySem.Spec PyProof.Rows L2 NB

/-! ### whether a hall stands there as at first -/
/-- the shared rules with their numbers -/
def shN (rs : List Rl) : List (Int × Rl) := (numR rs).filter fun r => shrd r.2
def lvN (xs : List Int) (q : Rl) : Int := if frC q xs % 2 = 0 then (q.1.1 : Int) else (q.2.1 : Int)
def ctR (xs : List Int) (r : Int × Rl) : List V := [.int r.1, .int (frC r.2 xs)]
def lvR (xs : List Int) (r : Int × Rl) : List V := [.int r.1, .int (lvN xs r.2)]
theorem fr_two (q : Rl) (xs : List Int) : frC q xs = 0 ∨ frC q xs = 1 := by
  unfold frC
  split
  · exact .inr rfl
  · exact .inl rfl
theorem rows_ct {tops xs : List Int} {σ : Sta} {rs : List Rl} (f : FsI tops xs σ rs) (cn : ∀ r ∈ σ.rules, cntAt σ r.2.1.1 r.1 = frC r.2 xs ∧ cntAt σ r.2.2.1 r.1 = frC r.2 xs) : (shCs σ σ.rules).map ctRow = (shN rs).map (ctR xs) ∧ (shCs σ σ.rules).map lvRow = (shN rs).map (lvR xs) := by
  unfold shCs shN
  rw [List.map_map, List.map_map, ← f.rules]
  refine ⟨List.map_congr_left fun r hr => ?_, List.map_congr_left fun r hr => ?_⟩
  · obtain ⟨c1, c2⟩ := cn r (List.mem_filter.mp hr).1
    show [V.int r.1, .int (if cntAt σ r.2.2.1 r.1 > cntAt σ r.2.1.1 r.1 then cntAt σ r.2.2.1 r.1 else cntAt σ r.2.1.1 r.1)] = _
    rw [c1, c2, if_neg (by omega)]
    rfl
  · obtain ⟨c1, c2⟩ := cn r (List.mem_filter.mp hr).1
    show [V.int r.1, lvV r.2 (cntAt σ r.2.1.1 r.1) (cntAt σ r.2.2.1 r.1)] = _
    rw [c1, c2]
    unfold lvV
    rw [if_pos rfl]
    rfl
theorem hrd_none {tops xs : List Int} {σ : Sta} {rs : List Rl} (f : FsI tops xs σ rs) : σ.hands.map hrdV = List.replicate xs.length V.non := by
  rw [← f.hn]
  refine List.eq_replicate_iff.mpr ⟨by rw [List.length_map], fun v hv => ?_⟩
  obtain ⟨h, hh, rfl⟩ := List.mem_map.mp hv
  obtain ⟨j, e⟩ := List.getElem?_of_mem hh
  unfold hrdV
  rw [(f.hs j h e).2.2.1]
theorem wt_all {b : Nat} : ∀ {ds : List PyData}, (∀ d ∈ ds, d.weight ≤ b) → PyData.weightAll ds ≤ (b + 1) * ds.length
  | [], _ => Nat.le_refl _
  | d :: ds, h => by
    have := wt_all (ds := ds) fun d hd => h d (List.mem_cons_of_mem _ hd)
    have := h d List.mem_cons_self
    simp only [PyData.weightAll, List.length_cons, Nat.mul_add]
    omega
/-- pairs of whole numbers as data -/
def prD (p : Int × Int) : PyData := .tuple [.int p.1, .int p.2]
theorem prs_da {n : Addr} {H : Hp} {g : Addr} {as : List Addr} {ps : List (Int × Int)} (e : H g = some (.tup (as.map V.ref))) (h : PrsAt H as (ps.map fun p => [V.int p.1, .int p.2])) : Da n H (.ref g) (.tuple (ps.map prD)) := by
  refine .tup e ?_
  clear e
  induction ps generalizing as with
  | nil =>
    have := h.1
    cases as with
    | nil => exact .nil
    | cons a as => cases this
  | cons p ps ih =>
    have l := h.1
    cases as with
    | nil => cases l
    | cons a as =>
      refine .cons (.tup (h.2 0 a _ rfl rfl) (.cons (.int _) (.cons (.int _) .nil))) (ih ⟨?_, fun i z r h1 h2 => h.2 (i + 1) z r h1 h2⟩)
      simpa using l
theorem ints_da {n : Addr} {H : Hp} {t : Addr} {xs : List Int} (e : H t = some (.tup (xs.map V.int))) : Da n H (.ref t) (.tuple (xs.map PyData.int)) := by
  refine .tup e ?_
  clear e
  induction xs with
  | nil => exact .nil
  | cons x xs ih => exact .cons (.int x) ih
theorem nons_da {n : Addr} {H : Hp} {t : Addr} {m : Nat} (e : H t = some (.tup (List.replicate m V.non))) : Da n H (.ref t) (.tuple (List.replicate m PyData.none)) := by
  refine .tup e ?_
  clear e
  induction m with
  | zero => exact .nil
  | succ m ih => exact .cons .non ih
/-- what is told, as data -/
def toldD (xs : List Int) (rs : List Rl) : PyData := .list [.tuple (xs.map PyData.int), .tuple (List.replicate xs.length PyData.none), .tuple (((shN rs).map fun r => (r.1, frC r.2 xs)).map prD), .tuple (((shN rs).map fun r => (r.1, lvN xs r.2)).map prD), .tuple [], .tuple [], .int 0]
theorem sm_prs {ps : List (Int × Int)} (h : ∀ p ∈ ps, p.1.natAbs < 10 ^ 90 ∧ p.2.natAbs < 10 ^ 90) : SmE (ps.map prD) 1 ∧ PyData.weightAll (ps.map prD) ≤ 623 * ps.length := by
  have each : ∀ p ∈ ps, Sm (prD p) 622 1 := fun p hp => by
    have a := Sm.int (h p hp).1
    have b := Sm.int (h p hp).2
    have wa := a.wt
    have wb := b.wt
    refine Sm.tup (fun d hd => ?_) ?_
    · rcases List.mem_cons.mp hd with rfl | hd
      · exact a.e
      · rcases List.mem_cons.mp hd with rfl | hd
        · exact b.e
        · exact absurd hd List.not_mem_nil
    · simp only [PyData.weightAll]
      omega
  refine ⟨fun d hd => ?_, ?_⟩
  · obtain ⟨p, hp, rfl⟩ := List.mem_map.mp hd
    exact (each p hp).e
  · have := wt_all (b := 622) (ds := ps.map prD) fun d hd => by
      obtain ⟨p, hp, rfl⟩ := List.mem_map.mp hd
      exact (each p hp).wt
    rw [List.length_map] at this
    exact this
theorem shN_small {rs : List Rl} {r : Int × Rl} (h : r ∈ shN rs) : 0 ≤ r.1 ∧ r.1 < rs.length ∧ r.2 ∈ rs := by
  have h' := (List.mem_filter.mp h).1
  obtain ⟨i, e⟩ := List.getElem?_of_mem h'
  rw [numR_get] at e
  obtain ⟨q, eq, rfl⟩ := Option.map_eq_some_iff.mp e
  have := (List.getElem?_eq_some_iff.mp eq).1
  exact ⟨Int.natCast_nonneg i, (by show (i : Int) < _; omega), List.mem_of_getElem? eq⟩
theorem shN_len (rs : List Rl) : (shN rs).length ≤ rs.length := by
  unfold shN
  have := numR_len rs
  exact this ▸ List.length_filter_le _ _
theorem told_sm {xs : List Int} {rs : List Rl} (l16 : rs.length ≤ 16) (l12 : xs.length ≤ 12) (pl : ∀ x ∈ xs, 0 ≤ x ∧ x < 10 ^ 30) (fit : ∀ q ∈ rs, q.1.1 < xs.length ∧ q.2.1 < xs.length) : Sm (toldD xs rs) 30000 3 := by
  have big : (10 : Int) ^ 30 < 10 ^ 90 := by decide +kernel
  have bn : (100 : Nat) < 10 ^ 90 := by decide +kernel
  have sl := shN_len rs
  have i1 : SmE (xs.map PyData.int) 0 := SmE.ints fun x hx => by
    have := pl x hx
    have b90 : ((10 ^ 90 : Nat) : Int) = (10 : Int) ^ 90 := by decide +kernel
    omega
  have w1 : PyData.weightAll (xs.map PyData.int) ≤ 311 * xs.length := by
    have := wt_all (b := 310) (ds := xs.map PyData.int) fun d hd => by
      obtain ⟨x, hx, rfl⟩ := List.mem_map.mp hd
      have := pl x hx
      have b90 : ((10 ^ 90 : Nat) : Int) = (10 : Int) ^ 90 := by decide +kernel
      exact (Sm.int (i := x) (by omega)).wt
    rw [List.length_map] at this
    exact this
  have i2 : SmE (List.replicate xs.length PyData.none) 0 := fun d hd => by
    rw [(List.mem_replicate.mp hd).2]
    exact Sm.none.e
  have w2 : PyData.weightAll (List.replicate xs.length PyData.none) ≤ 1 * xs.length := by
    have := wt_all (b := 0) (ds := List.replicate xs.length PyData.none) fun d hd => by
      rw [(List.mem_replicate.mp hd).2]
      exact Nat.le_refl _
    rw [List.length_replicate] at this
    exact this
  have sm3 : ∀ f : Int × Rl → Int, (∀ r ∈ shN rs, 0 ≤ f r ∧ f r < 100) → SmE (((shN rs).map fun r => (r.1, f r)).map prD) 1 ∧ PyData.weightAll (((shN rs).map fun r => (r.1, f r)).map prD) ≤ 623 * 16 := fun f hf => by
    obtain ⟨a, b⟩ := sm_prs (ps := (shN rs).map fun r => (r.1, f r)) fun p hp => by
      obtain ⟨r, hr, rfl⟩ := List.mem_map.mp hp
      have h1 := shN_small hr
      have h2 := hf r hr
      exact ⟨(by show r.1.natAbs < _; omega), (by show (f r).natAbs < _; omega)⟩
    rw [List.length_map] at b
    exact ⟨a, Nat.le_trans b (Nat.mul_le_mul_left _ (by omega))⟩
  obtain ⟨i3, w3⟩ := sm3 (fun r => frC r.2 xs) fun r hr => by
    rcases fr_two r.2 xs with z | z <;> omega
  obtain ⟨i4, w4⟩ := sm3 (fun r => lvN xs r.2) fun r hr => by
    have := fit _ (shN_small hr).2.2
    unfold lvN
    split <;> omega
  have S1 : Sm (.tuple (xs.map PyData.int)) 3732 2 := (Sm.tup i1 (Nat.le_trans w1 (Nat.le_trans (Nat.mul_le_mul_left _ l12) (by decide)))).mono (Nat.le_refl _) (by decide)
  have S2 : Sm (.tuple (List.replicate xs.length PyData.none)) 12 2 := (Sm.tup i2 (Nat.le_trans w2 (by omega))).mono (Nat.le_refl _) (by decide)
  have S3 := Sm.tup i3 w3
  have S4 := Sm.tup i4 w4
  have S5 : Sm (.tuple []) 0 2 := (Sm.tup (ds := []) (w := 0) (k := 1) (fun d hd => absurd hd List.not_mem_nil) (Nat.le_refl _))
  have S6 : Sm (.int 0) 310 2 := (Sm.int (by decide +kernel)).mono (Nat.le_refl _) (by decide)
  have a1 := S1.wt
  have a2 := S2.wt
  have a3 := S3.wt
  have a4 := S4.wt
  have a5 := S5.wt
  have a6 := S6.wt
  refine Sm.lst (fun d hd => ?_) ?_
  · simp only [List.mem_cons, List.not_mem_nil, or_false] at hd
    rcases hd with rfl | rfl | rfl | rfl | rfl | rfl | rfl
    · exact S1.e
    · exact S2.e
    · exact S3.e
    · exact S4.e
    · exact S5.e
    · exact S5.e
    · exact S6.e
  · simp only [PyData.weightAll]
    omega
theorem haF_no {s p : V} {m : Str} (h1 : (m == "now") = false := by decide +kernel) (h2 : (m == "past") = false := by decide +kernel) : (haF s p).lookup m = none := by
  simp [haF, List.lookup, h1, h2]
/-! ### numbered rules as data -/
def dS (s : Sd) : PyData := .tuple [.int s.1, .str (word s.2.1), .int s.2.2]
def dR (q : Rl) : PyData := .tuple [dS q.1, dS q.2]
def dN (r : Int × Rl) : PyData := .tuple [.int r.1, dR r.2]
theorem dp_side {K : PySem.W.Frag} {H : Hp} {p : Addr} {s : Sd} (h : SideAt H p s) : Dp K H (.ref p) (dS s) := .tup (.inl (.inl h)) (.cons (.int _) (.cons (.str _) (.cons (.int _) .nil)))
theorem dp_rule {K : PySem.W.Frag} {H : Hp} {p : Addr} {q : Rl} (h : RuleAt H p q) : Dp K H (.ref p) (dR q) := by
  obtain ⟨p1, p2, e, h1, h2⟩ := h
  exact .tup (.inl (.inl e)) (.cons (dp_side h1) (.cons (dp_side h2) .nil))
theorem dp_nb {K : PySem.W.Frag} {H : Hp} : ∀ {as : List Addr} {rows : List (Int × Rl)}, NbAt H as rows → DpAll K H (as.map V.ref) (rows.map dN)
  | [], [], _ => .nil
  | [], _ :: _, h => by cases h.1
  | _ :: _, [], h => by cases h.1
  | a :: as, r :: rows, h => by
    obtain ⟨p, e, er⟩ := h.2 0 a r rfl rfl
    exact .cons (.tup (.inl (.inl e)) (.cons (.int _) (.cons (dp_rule er) .nil))) (dp_nb ⟨by have := h.1; simpa using this, fun i z l h1 h2 => h.2 (i + 1) z l h1 h2⟩)
theorem lay_nb : ∀ rows : List (Int × Rl), PyData.canLayAll0 (rows.map dN) = true ∧ PyData.depthAll (rows.map dN) ≤ 3
  | [] => ⟨rfl, Nat.zero_le _⟩
  | r :: rows => by
    obtain ⟨h1, h2⟩ := lay_nb rows
    have w : ∀ b, PyData.strOk (word b) = true := fun b => by cases b <;> decide +kernel
    have d1 : PyData.canLay0 (dN r) = true := by simp only [dN, dR, dS, PyData.canLayAll0, PyData.canLay0, w, Bool.and_self]
    have d2 : PyData.depth (dN r) ≤ 3 := by simp [dN, dR, dS, PyData.depthAll, PyData.depth]
    simp only [List.map_cons, PyData.canLayAll0, PyData.depthAll, d1, h1, Bool.and_self, true_and]
    omega
theorem shaped_nb (rows : List (Int × Rl)) : SeqAt.shaped (.tuple (rows.map dN)) = true := by
  obtain ⟨h1, h2⟩ := lay_nb rows
  unfold SeqAt.shaped
  rw [Bool.and_eq_true]
  exact ⟨by simpa only [PyData.canLay0] using h1, decide_eq_true (by simp only [PyData.depth]; omega)⟩
theorem eq_nb (rows : List (Int × Rl)) : PyData.eqv (.tuple (rows.map dN)) (.tuple (rows.map dN)) = true := SeqAt.eqv_refl _ (by
  simp only [PyData.canLay0]
  exact (lay_nb rows).1)
section
variable {P : Program} {w : World} {K : PySem.W.Frag} {mg : Str → Option Value} {base : Heap}
def spFR (CH CS C : Addr) : Sp := fun vs H Q _ => ∃ (R t x s p : Addr) (tops xs : List Int) (rs : List Rl) (own : List Addr), vs = [.ref R, .ref t, .ref x] ∧ RulesAt H R rs ∧ H t = some (.tup (xs.map V.int)) ∧ HallAt CH CS C H x s p own (firstS tops xs rs) ∧ H p = some (.tup []) ∧ rs.length ≤ 16 ∧ 1 ≤ xs.length ∧ xs.length ≤ 12 ∧ (∀ x ∈ xs, 0 ≤ x ∧ x < 10 ^ 30) ∧ (∀ q ∈ rs, q.1.1 < xs.length ∧ q.2.1 < xs.length) ∧
  ∀ H', Same H H' → Q (.bl true) H'
abbrev a__law_first_right : Stmt := topS 71
abbrev n__law_first_right : List Str := ["_law_rules_here", "_law_standing_here", "_law_hall", "_law_shared", "_law_counts", "_law_leaves", "_law_nobody", "_law_told", "_law_due", "_law_number", "_law_rule", "_law_count"]
theorem sc__law_first_right : FnScope n__law_first_right ["_law_rules_here", "_law_standing_here", "_law_hall"] (defScope a__law_first_right) := ⟨rfl, rfl, rfl, by decide +kernel, rfl, by decide +kernel, by decide +kernel⟩
set_option maxHeartbeats 8000000 in
theorem ok__law_first_right {f fLi : Addr} {fd fdLi : FuncData}  {CH CS C fL : Addr} {fdL : FuncData} (F : Fun K "_law_first_right" "_law_first_right" a__law_first_right f fd) (Li : Kn P w K mg base 1 "_law_is_in" ["_law_side", "_law_standing_here"] spIn fLi fdLi) (Hst : C8.Met P w K mg base 2 CH "standing" (spHaSt CH CS C) []) (Hhd : C8.Met P w K mg base 1 CH "heard" (spHaHd CH CS C) []) (Hct : C8.Met P w K mg base 6 CH "counts" (spHaCt CH CS C) []) (Hlv : C8.Met P w K mg base 6 CH "leaves" (spHaLv CH CS C) []) (Huw : C8.Met P w K mg base 1 CH "under_way" (spHaLt CH CS C) []) (Hwt : C8.Met P w K mg base 7 CH "waiting" (spHaWt CH CS C) []) (Hgn : C8.Met P w K mg base 1 CH "gone" (spHaGn CH CS C) []) (Hnm : C8.Met P w K mg base 2 CH "numbered" (spHaNum CH CS C) []) (GL : FnOk P w K mg base CX0 1 fL fdL ["self"] (spHaLen CH CS C)) (aL : PySem.W.findIn K (.ref CH) "__len__" = some (some (.ref fL))) (iL : PySem.W.isFn K (.ref fL) = true) (bL : Binds K fdL ["self"] []) (m_enumerate : mg "enumerate" = none) (m_int : mg "int" = none) (m_len : mg "len" = none) (m_repr : mg "repr" = none) (m_tuple : mg "tuple" = none) : FnG P w K mg base 8 f fd ["_law_rules_here", "_law_standing_here", "_law_hall"] (spFR CH CS C) := by
  refine fnG F sc__law_first_right (fun vs H Q E h => ?_) (fun cdv A outer s H vs Q E hG hr h => ?_)
  · obtain ⟨R, t, x, s, p, tops, xs, rs, own, rfl, _⟩ := h
    rfl
  · obtain ⟨R, t, x, s, p, tops, xs, rs, own, rfl, hR, et, hx, ep, l16, x1, l12, pl, fit, q⟩ := h
    refine ⟨_, (pss_cons (ps_setLc (i := 3) (own := [("_law_number", 9), ("_law_rule", 10)]) (g := (gTup K 2 (gCons (gName 9) (gCons (gName 10) gNil)))) (tt := (tTest (tOp rNe (tOp (rIxT K) (tOp (rIxT K) (tVar 10) (tC (.int 0))) (tC (.int 0))) (tOp (rIxT K) (tOp (rIxT K) (tVar 10) (tC (.int 1))) (tC (.int 0)))))) (te := (tTup (tCons (tVar 9) (tCons (tVar 10) tNil)))) rfl sc__law_first_right.nd rfl rfl (sw_true rfl rfl rfl (by decide +kernel)) (pi_enumT (by rfl) m_enumerate (pa_cons (pv 0) pa_nil)) (blkOk_by (N := n__law_first_right) (sc := defScope a__law_first_right) (by decide +kernel))
          (fun _ _ _ _ _ => (pg_tup rfl (pgs_cons (pg_name (i := 9) sc__law_first_right.nd rfl (.inl rfl) (hf := .inr rfl)) (pgs_cons (pg_name (i := 10) sc__law_first_right.nd rfl (.inl rfl) (hf := .inr rfl)) pgs_nil)))) (fun _ _ _ _ _ => pts_one (pt_cmpR op_ne (pe_ix (r := rIxT K) ix_tup (pe_ix (r := rIxT K) ix_tup (pv 10) pe_int (fun _ _ => rfl)) pe_int (fun _ _ => rfl)) (pe_ix (r := rIxT K) ix_tup (pe_ix (r := rIxT K) ix_tup (pv 10) pe_int (fun _ _ => rfl)) pe_int (fun _ _ => rfl)) (nomark _))) (fun _ _ _ _ _ => (pe_tup (pa_cons (pv 9) (pa_cons (pv 10) pa_nil)))))
      (pss_cons (ps_set (i := 4) sc__law_first_right.nd rfl (.inl rfl) (pe_callTy call_tuple_of (by rfl) m_tuple (by decide +kernel) (pa_cons (
        pe_lc (own := [("_law_number", 9), ("_law_rule", 10)]) (g := (gTup K 2 (gCons (gName 9) (gCons (gName 10) gNil)))) (tt := tYes) (te := (tTup (tCons (tVar 9) (tCons (tCB (fun xs H Q => (∃ i, xs = [.int i] ∧ Q (.int i) H) ∨ ∃ k, xs = [.bl k] ∧ Q (.int (if k then 1 else 0)) H) (tCons (tNotV (tCall spIn [] E0 (tCons (tOp (rIxT K) (tVar 10) (tC (.int 1))) (tCons (tVar 1) tNil)))) tNil)) tNil)))) rfl sc__law_first_right.nd (pi_list (pv 3)) (blkOk_by (N := n__law_first_right) (sc := defScope a__law_first_right) (by decide +kernel))
          (fun _ _ _ _ _ => (pg_tup rfl (pgs_cons (pg_name (i := 9) sc__law_first_right.nd rfl (.inl rfl) (hf := .inr rfl)) (pgs_cons (pg_name (i := 10) sc__law_first_right.nd rfl (.inl rfl) (hf := .inr rfl)) pgs_nil)))) (fun _ _ _ _ _ => pts_nil) (fun _ _ _ _ _ => (pe_tup (pa_cons (pv 9) (pa_cons (pe_callTy call_int1 (by rfl) m_int (by decide +kernel) (pa_cons (pe_not (pe_kn Li hr (by omega) (pa_cons (pe_ix (r := rIxT K) ix_tup (pv 10) pe_int (fun _ _ => rfl)) (pa_cons (pv 1) pa_nil)))) pa_nil)) pa_nil))))) pa_nil)))
      (pss_cons (ps_set (i := 5) sc__law_first_right.nd rfl (.inl rfl) (pe_callTy call_tuple_of (by rfl) m_tuple (by decide +kernel) (pa_cons (
        pe_lc (own := [("_law_number", 9), ("_law_count", 11)]) (g := (gTup K 2 (gCons (gName 9) (gCons (gName 11) gNil)))) (tt := tYes) (te := (tTup (tCons (tVar 9) (tCons (tOp (rIxT K) (tOp (rIxT K) (tOp (rIxT K) (tVar 0) (tVar 9)) (tVar 11)) (tC (.int 0))) tNil)))) rfl sc__law_first_right.nd (pi_tup (pv 4)) (blkOk_by (N := n__law_first_right) (sc := defScope a__law_first_right) (by decide +kernel))
          (fun _ _ _ _ _ => (pg_tup rfl (pgs_cons (pg_name (i := 9) sc__law_first_right.nd rfl (.inl rfl) (hf := .inr rfl)) (pgs_cons (pg_name (i := 11) sc__law_first_right.nd rfl (.inl rfl) (hf := .inr rfl)) pgs_nil)))) (fun _ _ _ _ _ => pts_nil) (fun _ _ _ _ _ => (pe_tup (pa_cons (pv 9) (pa_cons (pe_ix (r := rIxT K) ix_tup (pe_ix (r := rIxT K) ix_tup (pe_ix (r := rIxT K) ix_tup (pv 0) (pv 9) (fun _ _ => rfl)) (pv 11) (fun _ _ => rfl)) pe_int (fun _ _ => rfl)) pa_nil))))) pa_nil)))
      (C8.pss_cut (ps_set (i := 6) sc__law_first_right.nd rfl (.inl rfl) (pe_op op_repT1 (pe_tup (pa_cons pe_non pa_nil)) (pe_callB call_len_seq (by rfl) m_len (by decide +kernel) (pa_cons (pv 1) pa_nil))))
      (pss_cons (ps_set (i := 7) sc__law_first_right.nd rfl (.inl rfl) (pe_lstN (pa_cons (C8.pe_mt0 Hst hr (by omega) (pv 2)) (pa_cons (C8.pe_mt0 Hhd hr (by omega) (pv 2)) (pa_cons (C8.pe_mt0 Hct hr (by omega) (pv 2)) (pa_cons (C8.pe_mt0 Hlv hr (by omega) (pv 2)) (pa_cons (C8.pe_mt0 Huw hr (by omega) (pv 2)) (pa_cons (C8.pe_mt0 Hwt hr (by omega) (pv 2)) (pa_cons (C8.pe_mt0 Hgn hr (by omega) (pv 2)) pa_nil)))))))))
      (pss_cons (ps_set (i := 8) sc__law_first_right.nd rfl (.inl rfl) (pe_lstN (pa_cons (pv 1) (pa_cons (pv 6) (pa_cons (pv 4) (pa_cons (pv 5) (pa_cons (pe_tup pa_nil) (pa_cons (pe_tup pa_nil) (pa_cons pe_int pa_nil)))))))))
      (pss_one (ps_ret (pe_and (pe_cmpR op_eq (pe_callB (call_reprA hG hr.units) (by rfl) m_repr (by decide +kernel) (pa_cons (pv 7) pa_nil)) (pe_callB (call_reprA hG hr.units) (by rfl) m_repr (by decide +kernel) (pa_cons (pv 8) pa_nil)) (nomark _)) (pe_and (pe_cmpR (op_eqD hr.units) (C8.pe_mt0 Hnm hr (by omega) (pv 2)) (pe_tupEn rfl (by rfl) m_tuple (by rfl) m_enumerate (pa_cons (pv 0) pa_nil)) (nomark _)) (pe_one (pe_cmpR op_eq (pe_callB (call_lenOwn GL (hr.mono (by omega)) aL iL bL pass0) (by rfl) m_len (by decide +kernel) (pa_cons (pv 2) pa_nil)) pe_int (nomark _))))))))))))), ?_⟩
    obtain ⟨as, eR, la, ra⟩ := hR
    have fi := first_inv tops xs rs
    generalize firstS tops xs rs = σ0 at hx fi
    obtain ⟨sok, cn⟩ := first_sh fi (by omega) fit
    obtain ⟨rct, rlv⟩ := rows_ct fi cn
    have nl := numR_len rs
    refine ⟨.ref R, rfl, R, as.map V.ref, rfl, .inl (.inl eR), fun D nD => lc_it (walk_enumT (xs := as.map V.ref)) (fun i H' => Same H H' ∧ ∃ bs : List Addr, H' D = some (.lst (bs.map V.ref)) ∧ NbAt H' bs (((numR rs).take i).filter fun r => shrd r.2)) ⟨same_new nD, [], upd_same, rfl, fun i a r h => by rw [List.getElem?_nil] at h; cases h⟩ (fun i H' _ p => .inl (.inl (p.1 _ _ eR))) (fun i v H2 H3 hi p y => ?_) (fun H1 p => ?_)⟩
    · obtain ⟨s2, bs, eD, nb⟩ := p
      obtain ⟨T', x1, x2, rfl, nT, rfl, g1, g2⟩ := y
      have e1 : x1 = .int (i : Nat) := (Option.some.inj g1).symm
      subst e1
      obtain ⟨r, er, rfl⟩ := mapGet g2
      have hr' : i < rs.length := by rw [← la]; exact (List.getElem?_eq_some_iff.mp er).1
      have eq : rs[i]? = some rs[i] := List.getElem?_eq_getElem hr'
      have rA := (ra i r _ er eq)
      have sT := same_new (o := HO.tup [V.int (i : Nat), V.ref r]) nT
      have eT : (upd H2 T' (HO.tup [V.int (i : Nat), V.ref r])) T' = some (.tup [V.int (i : Nat), V.ref r]) := upd_same
      have s3 := s2.trans sT
      have eD3 := sT _ _ eD
      have nb3 := nb.tk (tk_same sT)
      generalize upd H2 T' (HO.tup [V.int (i : Nat), V.ref r]) = H3 at eT s3 eD3 nb3 ⊢
      have tke : (numR rs).take (i + 1) = (numR rs).take i ++ [((i : Int), rs[i])] := by
        rw [List.take_add_one, numR_get, eq]
        rfl
      generalize rs[i] = q0 at rA tke eq
      have rA3 := rA.tk (tk_same s3)
      obtain ⟨p1, p2, e3, h1, h2⟩ := id rA3
      have k1 : H3 p1 = some (.tup [.int (q0.1.1 : Int), .str (word q0.1.2.1), .int q0.1.2.2]) := h1
      have k2 : H3 p2 = some (.tup [.int (q0.2.1 : Int), .str (word q0.2.2.1), .int q0.2.2.2]) := h2
      refine ⟨T', _, rfl, .inl (.inl eT), rfl, _, _, rfl, _, _, rfl, rfl, rfl, .ref r, rfl, r, _, 0, .ref p1, rfl, rfl, .inl (.inl e3), atI_nat (j := 0) rfl, p1, _, 0, _, rfl, rfl, .inl (.inl k1), atI_nat (j := 0) rfl, .ref r, rfl, r, _, 1, .ref p2, rfl, rfl, .inl (.inl e3), atI_nat (j := 1) rfl, p2, _, 0, _, rfl, rfl, .inl (.inl k2), atI_nat (j := 0) rfl, rfl, _, rfl, ?_⟩
      have tst : (!decide (V.int (q0.1.1 : Int) = V.int (q0.2.1 : Int))) = shrd q0 := by
        unfold shrd
        by_cases c : q0.1.1 = q0.2.1
        · rw [c]; simp
        · have c' : ¬ ((q0.1.1 : Int) = q0.2.1) := by omega
          simp [c, c']
      rw [tst]
      cases sh : shrd q0 with
      | false =>
        refine iteF ⟨s3, bs, eD3, ?_⟩
        rw [tke, List.filter_append]
        simp only [List.filter_cons, sh, List.filter_nil, List.append_nil, Bool.false_eq_true, if_false]
        exact nb3
      | true =>
        refine iteT ⟨.int (i : Nat), rfl, .ref r, rfl, (show 2 ≤ sizeLine by decide), fun N nN => ?_⟩
        have sN := same_new (o := HO.tup [V.int (i : Nat), V.ref r]) nN
        have eN : (upd H3 N (HO.tup [V.int (i : Nat), V.ref r])) N = some (.tup [V.int (i : Nat), V.ref r]) := upd_same
        have s4 := s3.trans sN
        have eD4 := sN _ _ eD3
        have nb4 := nb3.tk (tk_same sN)
        have rA4 := rA3.tk (tk_same sN)
        generalize upd H3 N (HO.tup [V.int (i : Nat), V.ref r]) = H4 at eN s4 eD4 nb4 rA4 ⊢
        have kD : TupK H4 (upd H4 D (.lst (bs.map V.ref ++ [.ref N]))) := fun b xs e => (upd_ne (fun w => by rw [w, eD4] at e; cases e)).trans e
        refine ⟨_, eD4, ?_, same_over s4 nD, bs ++ [N], by rw [upd_same, List.map_append]; rfl, ?_⟩
        · have l1 := nb.1
          have l2 := List.length_filter_le (fun r : Int × Rl => shrd r.2) ((numR rs).take i)
          rw [List.length_take] at l2
          rw [List.length_map, l1]
          exact small1000 (by omega)
        · rw [tke, List.filter_append]
          simp only [List.filter_cons, sh, List.filter_nil, if_true]
          exact (nb4.tk kD).snoc (r := ((i : Int), q0)) (kD _ _ eN) (rA4.tk kD)
    · obtain ⟨s1, bs, eD, nb⟩ := p
      have tk : (numR rs).take (as.map V.ref).length = numR rs := List.take_of_length_le (by rw [List.length_map, nl, la]; exact Nat.le_refl _)
      rw [tk] at nb
      have nb0 : NbAt H1 bs (shN rs) := nb
      clear nb tk
      have sl := shN_len rs
      refine ⟨.ref D, rfl, D, rfl, ⟨_, .inl (.inl eD)⟩, fun D2 nD2 => lc_it (walk_list (xs := bs.map V.ref)) (fun i H' => Same H1 H' ∧ ∃ cs : List Addr, H' D2 = some (.lst (cs.map V.ref)) ∧ PrsAt H' cs (((shN rs).take i).map (ctR xs))) ⟨same_new nD2, [], upd_same, PrsAt.nil⟩ (fun i H' _ p => .inl (.inl (p.1 _ _ eD))) (fun i v H4' H4 hi p yy => ?_) (fun H4 p => ?_)⟩
      · obtain ⟨s4, cs, eD4, pr⟩ := p
        obtain ⟨rfl, gv⟩ := yy
        obtain ⟨a, ea, rfl⟩ := mapGet gv
        have il : i < (shN rs).length := by rw [← nb0.1]; simpa using hi
        have er : (shN rs)[i]? = some (shN rs)[i] := List.getElem?_eq_getElem il
        have hm := List.getElem_mem il
        generalize (shN rs)[i] = r0 at er hm
        have hsh : shrd r0.2 = true := by
          have := (List.mem_filter.mp hm).2
          exact this
        have ft := fit _ (shN_small hm).2.2
        obtain ⟨p, e1, e2⟩ := (nb0.tk (tk_same s4)).2 i a r0 ea er
        obtain ⟨p1, p2, e3, h1, h2⟩ := id e2
        refine ⟨a, _, rfl, .inl (.inl e1), rfl, _, _, rfl, _, _, rfl, rfl, rfl, .int r0.1, rfl, .ref p, rfl, p, _, 1, .ref p2, rfl, rfl, .inl (.inl e3), atI_nat (j := 1) rfl, .ref t, rfl, p2, t, r0.2.2, xs, rfl, h2, (s1.trans s4) _ _ et, ft.2, _, rfl, .inr ⟨_, rfl, (show 2 ≤ sizeLine by decide), fun N nN => ?_⟩⟩
        have fv : (if (!inB xs r0.2.2) = true then (1 : Int) else 0) = frC r0.2 xs := by
          unfold frC
          rw [hsh, Bool.true_and]
        rw [fv]
        have sN := same_new (o := HO.tup [V.int r0.1, .int (frC r0.2 xs)]) nN
        have eN : (upd H4 N (HO.tup [V.int r0.1, .int (frC r0.2 xs)])) N = some (.tup (ctR xs r0)) := upd_same
        have s5 := s4.trans sN
        have eD5 := sN _ _ eD4
        have pr5 := pr.tk (tk_same sN)
        generalize upd H4 N (HO.tup [V.int r0.1, .int (frC r0.2 xs)]) = H5 at eN s5 eD5 pr5 ⊢
        have kD : TupK H5 (upd H5 D2 (.lst (cs.map V.ref ++ [.ref N]))) := fun b xs e => (upd_ne (fun w => by rw [w, eD5] at e; cases e)).trans e
        refine ⟨_, eD5, ?_, same_over s5 nD2, cs ++ [N], by rw [upd_same, List.map_append]; rfl, ?_⟩
        · rw [List.length_map, pr.1, List.length_map, List.length_take]
          exact small1000 (by omega)
        · rw [List.take_add_one, er, List.map_append]
          exact (pr5.tk kD).snoc (r := ctR xs r0) (kD _ _ eN)
      · obtain ⟨s4, cs, eD4, pr⟩ := p
        have tk : (shN rs).take (bs.map V.ref).length = shN rs := List.take_of_length_le (by rw [List.length_map, nb0.1]; exact Nat.le_refl _)
        rw [tk] at pr
        refine ⟨D2, _, rfl, .inl ⟨.inl (.inl eD4), fun gC nC => ?_⟩⟩
        have sC := same_new (o := HO.tup (cs.map V.ref)) nC
        have eC : (upd H4 gC (HO.tup (cs.map V.ref))) gC = some (.tup (cs.map V.ref)) := upd_same
        have prC := pr.tk (tk_same sC)
        have s5 := (s1.trans s4).trans sC
        clear pr eD4 s4 nD2
        generalize upd H4 gC (HO.tup (cs.map V.ref)) = H5 at eC prC s5 ⊢
        clear sC
        have eR5 := s5 _ _ eR
        refine ⟨.ref gC, rfl, gC, rfl, ⟨_, .inl (.inl eC)⟩, fun D3 nD3 => lc_it (walk_tup (xs := cs.map V.ref)) (fun i H' => Same H5 H' ∧ ∃ ds : List Addr, H' D3 = some (.lst (ds.map V.ref)) ∧ PrsAt H' ds (((shN rs).take i).map (lvR xs))) ⟨same_new nD3, [], upd_same, PrsAt.nil⟩ (fun i H' _ p => .inl (.inl (p.1 _ _ eC))) (fun i v H6' H6 hi p yy => ?_) (fun H6 p => ?_)⟩
        · obtain ⟨s6, ds, eD6, pr6⟩ := p
          obtain ⟨rfl, gv⟩ := yy
          obtain ⟨a, ea, rfl⟩ := mapGet gv
          have cl := prC.1
          rw [List.length_map] at cl
          have il : i < (shN rs).length := by rw [← cl]; simpa using hi
          have er : (shN rs)[i]? = some (shN rs)[i] := List.getElem?_eq_getElem il
          have hm := List.getElem_mem il
          generalize (shN rs)[i] = r0 at er hm
          have e1 := (prC.tk (tk_same s6)).2 i a (ctR xs r0) ea (by rw [List.getElem?_map, er]; rfl)
          have e1' : H6 a = some (.tup [.int r0.1, .int (frC r0.2 xs)]) := e1
          obtain ⟨j, ej⟩ := List.getElem?_of_mem (List.mem_filter.mp hm).1
          rw [numR_get] at ej
          obtain ⟨q0, eq0, er0⟩ := Option.map_eq_some_iff.mp ej
          have jl : j < as.length := by rw [la]; exact (List.getElem?_eq_some_iff.mp eq0).1
          have eaj : as[j]? = some as[j] := List.getElem?_eq_getElem jl
          generalize as[j] = r at eaj
          have rA := (ra j r q0 eaj eq0).tk (tk_same (s5.trans s6))
          have hn : r0.1 = (j : Int) := by rw [← er0]
          have hq : r0.2 = q0 := by rw [← er0]
          obtain ⟨p1, p2, e3, h1, h2⟩ := id rA
          have k1 : H6 p1 = some (.tup [.int (q0.1.1 : Int), .str (word q0.1.2.1), .int q0.1.2.2]) := h1
          have k2 : H6 p2 = some (.tup [.int (q0.2.1 : Int), .str (word q0.2.2.1), .int q0.2.2.2]) := h2
          have eR6 := s6 _ _ eR5
          refine ⟨a, _, rfl, .inl (.inl e1'), rfl, _, _, rfl, _, _, rfl, rfl, rfl, .int r0.1, rfl, .ref R, rfl, .int r0.1, rfl, R, as.map V.ref, r0.1, .ref r, rfl, rfl, .inl (.inl eR6), (by rw [hn]; exact atI_nat (by rw [List.getElem?_map, eaj]; rfl)), .int (frC r0.2 xs), rfl, ?_⟩
          have fin : ∀ N, H6 N = none → ∃ acc, (upd H6 N (HO.tup [.int r0.1, .int (lvN xs r0.2)])) D3 = some (HO.lst acc) ∧ acc.length < sizeLine ∧ Same H5 (upd (upd H6 N (HO.tup [.int r0.1, .int (lvN xs r0.2)])) D3 (HO.lst (acc ++ [.ref N]))) ∧ ∃ ds, upd (upd H6 N (HO.tup [.int r0.1, .int (lvN xs r0.2)])) D3 (HO.lst (acc ++ [.ref N])) D3 = some (HO.lst (List.map V.ref ds)) ∧ PrsAt (upd (upd H6 N (HO.tup [.int r0.1, .int (lvN xs r0.2)])) D3 (HO.lst (acc ++ [.ref N]))) ds (List.map (lvR xs) (List.take (i + 1) (shN rs))) := fun N nN => by
            have sN := same_new (o := HO.tup [.int r0.1, .int (lvN xs r0.2)]) nN
            have eN : (upd H6 N (HO.tup [.int r0.1, .int (lvN xs r0.2)])) N = some (.tup (lvR xs r0)) := upd_same
            have s7 := s6.trans sN
            have eD7 := sN _ _ eD6
            have pr7 := pr6.tk (tk_same sN)
            generalize upd H6 N (HO.tup [.int r0.1, .int (lvN xs r0.2)]) = H7 at eN s7 eD7 pr7 ⊢
            have kD : TupK H7 (upd H7 D3 (.lst (ds.map V.ref ++ [.ref N]))) := fun b xs e => (upd_ne (fun w => by rw [w, eD7] at e; cases e)).trans e
            refine ⟨_, eD7, ?_, same_over s7 nD3, ds ++ [N], by rw [upd_same, List.map_append]; rfl, ?_⟩
            · rw [List.length_map, pr6.1, List.length_map, List.length_take]
              exact small1000 (by omega)
            · rw [List.take_add_one, er, List.map_append]
              exact (pr7.tk kD).snoc (r := lvR xs r0) (kD _ _ eN)
          rw [hq] at fin ⊢
          unfold lvN at fin
          rcases fr_two q0 xs with z | z
          · rw [z] at fin ⊢
            exact ⟨r, _, 0, .ref p1, rfl, rfl, .inl (.inl e3), atI_nat (j := 0) rfl, p1, _, 0, _, rfl, rfl, .inl (.inl k1), atI_nat (j := 0) rfl, (show 2 ≤ sizeLine by decide), fin⟩
          · rw [z] at fin ⊢
            exact ⟨r, _, 1, .ref p2, rfl, rfl, .inl (.inl e3), atI_nat (j := 1) rfl, p2, _, 0, _, rfl, rfl, .inl (.inl k2), atI_nat (j := 0) rfl, (show 2 ≤ sizeLine by decide), fin⟩
        · obtain ⟨s6, ds, eD6, pr6⟩ := p
          have cl := prC.1
          rw [List.length_map] at cl
          have tk : (shN rs).take (cs.map V.ref).length = shN rs := List.take_of_length_le (by rw [List.length_map, cl]; exact Nat.le_refl _)
          rw [tk] at pr6
          refine ⟨D3, _, rfl, .inl ⟨.inl (.inl eD6), fun gL nL => ?_⟩⟩
          have sL := same_new (o := HO.tup (ds.map V.ref)) nL
          have eL : (upd H6 gL (HO.tup (ds.map V.ref))) gL = some (.tup (ds.map V.ref)) := upd_same
          have prL := pr6.tk (tk_same sL)
          have s7 := (s5.trans s6).trans sL
          have eC7 := (s6.trans sL) _ _ eC
          have prC7 := prC.tk (tk_same (s6.trans sL))
          clear pr6 eD6 nD3
          generalize upd H6 gL (HO.tup (ds.map V.ref)) = H7 at eL prL s7 eC7 prC7 ⊢
          clear sL s6 s5 prC eC eR5
          refine ⟨fun σ' H' => ∃ N, σ' = ((((L2.start n__law_first_right [V.ref R, V.ref t, V.ref x]).set 3 (some (.ref D))).set 4 (some (.ref gC))).set 5 (some (.ref gL))).set 6 (some (.ref N)) ∧ Same H7 H' ∧ H' N = some (.tup (List.replicate xs.length V.non)), ?_, fun σ' H8 y => ?_⟩
          · refine ⟨(show 1 ≤ sizeLine by decide), fun U nU => ?_⟩
            have sU := same_new (o := HO.tup [V.non]) nU
            have eU : (upd H7 U (HO.tup [V.non])) U = some (.tup [V.non]) := upd_same
            have et7 := sU _ _ (s7 _ _ et)
            generalize upd H7 U (HO.tup [V.non]) = H8 at sU eU et7 ⊢
            refine ⟨.ref t, rfl, t, xs.map V.int, rfl, .inr (.inl (.inl et7)), U, _, [V.non], rfl, rfl, .inl (.inl eU), (by simp), ?_, ?_, (by decide), fun k1 => ?_, fun k2 pN nN => ?_⟩
            · rw [List.length_map]; omega
            · rw [List.length_map]; omega
            · rw [List.length_map] at k1
              have : xs.length = 1 := by omega
              rw [this]
              exact ⟨U, rfl, sU, eU⟩
            · refine ⟨pN, rfl, sU.trans (same_new nN), ?_⟩
              rw [upd_same, List.length_map]
              congr 2
              rw [show (xs.length : Int).toNat = xs.length by omega]
              generalize xs.length = m
              induction m with
              | zero => rfl
              | succ m ih =>
                rw [List.replicate_succ, List.replicate_succ, List.flatten_cons, ih]
                rfl
          · obtain ⟨N, rfl, s8, eN⟩ := y
            have s08 := s7.trans s8
            obtain ⟨dx, ex, hst⟩ := id (hx.same s08)
            have hh12 : σ0.hands.length ≤ 12 := by rw [fi.hn]; exact l12
            refine ⟨.ref x, rfl, x, dx, _, rfl, ex, haF_no, x, s, p, own, σ0, rfl, hx.same s08, hh12, fun H9 g1 s9 e1 => ?_⟩
            have s09 := s08.trans s9
            refine ⟨.ref x, rfl, x, dx, _, rfl, s9 _ _ ex, haF_no, x, s, p, own, σ0, rfl, hx.same s09, hh12, fun H10 g2 s10 e2 => ?_⟩
            have s010 := s09.trans s10
            refine ⟨.ref x, rfl, x, dx, _, rfl, (s9.trans s10) _ _ ex, haF_no, x, s, p, own, σ0, rfl, hx.same s010, sok, fun H11 g3 a3 s11 e3 r3 => ?_⟩
            have s011 := s010.trans s11
            refine ⟨.ref x, rfl, x, dx, _, rfl, ((s9.trans s10).trans s11) _ _ ex, haF_no, x, s, p, own, σ0, rfl, hx.same s011, sok, fun H12 g4 a4 s12 e4 r4 => ?_⟩
            have s012 := s011.trans s12
            refine ⟨.ref x, rfl, x, dx, _, rfl, (((s9.trans s10).trans s11).trans s12) _ _ ex, haF_no, x, s, p, own, σ0, rfl, hx.same s012, fun H13 g5 a5 s13 e5 r5 => ?_⟩
            have s013 := s012.trans s13
            have hwt : ∀ h ∈ σ0.hands, h.rows.length ≤ 40 ∧ ∀ w, h.wish = some w → h.thing < w.2.length := fun h hh => by
              obtain ⟨j, ej⟩ := List.getElem?_of_mem hh
              have := fi.hs j h ej
              exact ⟨by have := this.2.2.2.2.2; omega, fun w hw => by rw [this.2.2.1] at hw; cases hw⟩
            refine ⟨.ref x, rfl, x, dx, _, rfl, ((((s9.trans s10).trans s11).trans s12).trans s13) _ _ ex, haF_no, x, s, p, own, σ0, rfl, hx.same s013, hh12, hwt, fun H14 g6 a6 rs6 s14 e6 k6 r6 => ?_⟩
            have s014 := s013.trans s14
            have ex14 := (((((s9.trans s10).trans s11).trans s12).trans s13).trans s14) _ _ ex
            refine ⟨.ref x, rfl, x, dx, _, rfl, ex14, haF_no, x, s, p, own, σ0, rfl, hx.same s014, (show 7 ≤ sizeLine by decide), fun L1 n1 m1 => ?_⟩
            have z6 := first_lks fi k6
            subst z6
            have a6n : a6 = [] := List.eq_nil_of_length_eq_zero r6.1
            subst a6n
            rw [fi.let0] at r5
            have a5n : a5 = [] := List.eq_nil_of_length_eq_zero r5.1
            subst a5n
            rw [rct] at r3
            rw [rlv] at r4
            rw [hrd_none fi] at e2
            rw [fi.pls] at e1
            rw [fi.ag]
            have sA := s014
            have E1 := (((((s10.trans s11).trans s12).trans s13).trans s14)) _ _ e1
            have E2 := ((((s11.trans s12).trans s13).trans s14)) _ _ e2
            have E3 := (((s12.trans s13).trans s14)) _ _ e3
            have R3 := r3.tk (tk_same (((s12.trans s13).trans s14)))
            have E4 := ((s13.trans s14)) _ _ e4
            have R4 := r4.tk (tk_same ((s13.trans s14)))
            have E5 := s14 _ _ e5
            have sB := ((((((s8.trans s9).trans s10).trans s11).trans s12).trans s13).trans s14)
            have eC14 := sB _ _ eC7
            have RC := prC7.tk (tk_same sB)
            have eL14 := sB _ _ eL
            have RL := prL.tk (tk_same sB)
            have eN14 := ((((((s9.trans s10).trans s11).trans s12).trans s13).trans s14)) _ _ eN
            clear s09 s010 s011 s012 s013 s9 s10 s11 s12 s13 s14 e1 e2 e3 e4 e5 r3 r4 sB eN prL prC7 eC7 eL s8 s08 s7
            have l14 : ∀ b o, H14 b = some o → b ≠ L1 := fun b o e z => by rw [z, n1] at e; cases e
            have sL1 := same_new (o := HO.lst [V.ref g1, V.ref g2, V.ref g3, V.ref g4, V.ref g5, V.ref g6, V.int 0]) n1
            have eL1 : (upd H14 L1 (HO.lst [V.ref g1, V.ref g2, V.ref g3, V.ref g4, V.ref g5, V.ref g6, V.int 0])) L1 = some (.lst [V.ref g1, V.ref g2, V.ref g3, V.ref g4, V.ref g5, V.ref g6, V.int 0]) := upd_same
            generalize upd H14 L1 (HO.lst [V.ref g1, V.ref g2, V.ref g3, V.ref g4, V.ref g5, V.ref g6, V.int 0]) = H15 at sL1 eL1 ⊢
            refine ⟨.ref t, rfl, .ref N, rfl, .ref gC, rfl, .ref gL, rfl, (show 0 ≤ sizeLine by decide), fun u1 nu1 => ?_⟩
            have su1 := same_new (o := HO.tup []) nu1
            have eu1 : (upd H15 u1 (HO.tup [])) u1 = some (.tup []) := upd_same
            generalize upd H15 u1 (HO.tup []) = H16 at su1 eu1 ⊢
            refine ⟨(show 0 ≤ sizeLine by decide), fun u2 nu2 => ?_⟩
            have su2 := same_new (o := HO.tup []) nu2
            have eu2 : (upd H16 u2 (HO.tup [])) u2 = some (.tup []) := upd_same
            generalize upd H16 u2 (HO.tup []) = H17 at su2 eu2 ⊢
            refine ⟨(show 7 ≤ sizeLine by decide), fun L2 n2 m2 => ?_⟩
            have sL2 := same_new (o := HO.lst [V.ref t, V.ref N, V.ref gC, V.ref gL, V.ref u1, V.ref u2, V.int 0]) n2
            have eL2 : (upd H17 L2 (HO.lst [V.ref t, V.ref N, V.ref gC, V.ref gL, V.ref u1, V.ref u2, V.int 0])) L2 = some (.lst [V.ref t, V.ref N, V.ref gC, V.ref gL, V.ref u1, V.ref u2, V.int 0]) := upd_same
            generalize upd H17 L2 (HO.lst [V.ref t, V.ref N, V.ref gC, V.ref gL, V.ref u1, V.ref u2, V.int 0]) = H18 at sL2 eL2 ⊢
            have s48 := ((sL1.trans su1).trans su2).trans sL2
            have s018 := sA.trans s48
            have t1 : t ≠ L1 := fun z => by
              have := sA _ _ et
              rw [z, n1] at this
              cases this
            have t2 : t ≠ L2 := fun z => by
              have := (sA.trans ((sL1.trans su1).trans su2)) _ _ et
              rw [z, n2] at this
              cases this
            have emp : ∀ {u : Addr}, H18 u = some (.tup []) → Da t H18 (.ref u) (.tuple []) := fun e => .tup e .nil
            have et18 : H18 t = some (.tup (xs.map V.int)) := s018 _ _ et
            have D1 : Da t H18 (.ref L1) (toldD xs rs) := .lst ((su1.trans su2).trans sL2 _ _ eL1) m1 t1.symm
              (.cons (ints_da (s48 _ _ E1)) (.cons (nons_da (s48 _ _ E2)) (.cons (prs_da (s48 _ _ E3) (by rw [List.map_map]; exact R3.tk (tk_same s48))) (.cons (prs_da (s48 _ _ E4) (by rw [List.map_map]; exact R4.tk (tk_same s48))) (.cons (emp (s48 _ _ E5)) (.cons (emp (s48 _ _ e6)) (.cons (.int 0) .nil)))))))
            have D2 : Da t H18 (.ref L2) (toldD xs rs) := .lst eL2 m2 t2.symm
              (.cons (ints_da et18) (.cons (nons_da (s48 _ _ eN14)) (.cons (prs_da (s48 _ _ eC14) (by rw [List.map_map]; exact RC.tk (tk_same s48))) (.cons (prs_da (s48 _ _ eL14) (by rw [List.map_map]; exact RL.tk (tk_same s48))) (.cons (emp (su2.trans sL2 _ _ eu1)) (.cons (emp (sL2 _ _ eu2)) (.cons (.int 0) .nil)))))))
            have SM := told_sm (rs := rs) l16 l12 pl fit
            have ex18 := s48 _ _ ex14
            have hx18 := hx.same s018
            refine ⟨.ref L1, rfl, t, _, toldD xs rs, 30000, 3, rfl, D1, SM, by decide, by decide, .ref L2, rfl, t, _, toldD xs rs, 30000, 3, rfl, D2, SM, by decide, by decide, rfl, ?_⟩
            refine ⟨true, congrArg V.bl (decide_eq_true rfl), iteT ?_⟩
            refine ⟨.ref x, rfl, x, dx, _, rfl, ex18, haF_no, x, s, p, own, σ0, rfl, hx18, sok.1, fun H19 gn an s19 en nbn => ?_⟩
            rw [fi.rules] at nbn
            have s019 := s018.trans s19
            refine ⟨.ref R, rfl, R, as.map V.ref, rfl, .inl (.inl (s019 _ _ eR)), by rw [List.length_map]; omega, fun H20 q2 Us s20 nq eq2 lU hU => ?_⟩
            rw [List.length_map] at lU
            have s020 := s019.trans s20
            have nb2 := nb_num la (fun i r q h1 h2 => (ra i r q h1 h2).tk (tk_same s019)) s20 lU hU
            have nb1 := nbn.tk (tk_same s20)
            refine ⟨_, _, .tup (.inl (.inl (s20 _ _ en))) (dp_nb nb1), .tup (.inl (.inl eq2)) (dp_nb nb2), shaped_nb _, shaped_nb _, true, congrArg V.bl (eq_nb _), iteT ?_⟩
            have ex20 := (s19.trans s20) _ _ ex18
            refine ⟨.ref x, rfl, x, dx, _, rfl, ex20, x, s, p, own, σ0, [], rfl, hx.same s020, s020 _ _ ep, 0, rfl, by decide, by decide, rfl, ?_⟩
            have z0 : decide (V.int 0 = V.int 0) = true := decide_eq_true rfl
            rw [z0]
            exact q _ s020
end
end K66

set_option Elab.async false
set_option linter.all false
set_option maxRecDepth 100000
namespace K66
open PySem PySem.Spec PyProof.Rows L2 NB

/-! ### whether some thing isn't refused as it must be -/
theorem brok_sm (xs : List Int) (rs : List Rl) (l16 : rs.length ≤ 16) : Sm (.tuple ((brok xs rs).map PyData.int)) 6000 1 := by
  have each : ∀ k ∈ brok xs rs, k.natAbs < 10 ^ 90 := fun k hk => by
    unfold brok at hk
    obtain ⟨⟨q, i⟩, hm, e⟩ := List.mem_filterMap.mp hk
    have hi : i < rs.length := by
      rw [List.mem_zipIdx_iff_getElem?] at hm
      exact (List.getElem?_eq_some_iff.mp hm).1
    have ek : k = (i : Int) := by
      by_cases c : kept xs q = true
      · simp [c] at e
      · simp [c] at e
        exact e.symm
    have bn : (100 : Nat) < 10 ^ 90 := by decide +kernel
    omega
  have i1 : SmE ((brok xs rs).map PyData.int) 0 := SmE.ints each
  have w1 := wt_all (b := 310) (ds := (brok xs rs).map PyData.int) fun d hd => by
    obtain ⟨x, hx, rfl⟩ := List.mem_map.mp hd
    exact (Sm.int (each x hx)).wt
  have bl := brok_len xs rs
  rw [List.length_map] at w1
  exact Sm.tup i1 (Nat.le_trans w1 (by omega))
theorem rules_da {n : Addr} {H : Hp} {R : Addr} {rs : List Rl} (h : RulesAt H R rs) : Da n H (.ref R) (.tuple (rs.map dR)) := by
  obtain ⟨as, e, la, ra⟩ := h
  refine .tup e ?_
  clear e
  induction rs generalizing as with
  | nil =>
    cases as with
    | nil => exact .nil
    | cons a as => cases la
  | cons q rs ih =>
    cases as with
    | nil => cases la
    | cons a as =>
      obtain ⟨p1, p2, e, h1, h2⟩ := ra 0 a q rfl rfl
      exact .cons (.tup e (.cons (.tup h1 (.cons (.int _) (.cons (.str _) (.cons (.int _) .nil)))) (.cons (.tup h2 (.cons (.int _) (.cons (.str _) (.cons (.int _) .nil)))) .nil))) (ih as (by simpa using la) fun i r q h1 h2 => ra (i + 1) r q h1 h2)
section
variable {P : Program} {w : World} {K : PySem.W.Frag} {mg : Str → Option Value} {base : Heap}
def spIW (CP : Addr) : Sp := fun vs H Q _ => ∃ (a x R t : Addr) (tops : List Int) (rs : List Rl) (c : Nat), vs = [.ref a, .ref x, .ref R, .ref t] ∧ PotAt H a c ∧ c < 600000 ∧ PlanAt CP H x tops rs ∧ RulesAt H R rs ∧ H t = some (.tup (tops.map V.int)) ∧ Few tops ∧ 1 ≤ tops.length ∧ tops.length ≤ 4 ∧ rs.length ≤ 16 ∧ (∀ q ∈ rs, RuleOk tops q) ∧
  ∀ H', But a H H' → PotAt H' a (c + 400) → Q (.bl false) H'
abbrev a__law_is_wrong : Stmt := topS 72
abbrev n__law_is_wrong : List Str := ["_law_pot_here", "_law_plan", "_law_rules_here", "_law_tops_here", "_law_turn", "_law_thing", "_law_bad_plan", "_law_word", "_law_found"]
theorem sc__law_is_wrong : FnScope n__law_is_wrong ["_law_pot_here", "_law_plan", "_law_rules_here", "_law_tops_here"] (defScope a__law_is_wrong) := ⟨rfl, rfl, rfl, by decide +kernel, rfl, by decide +kernel, by decide +kernel⟩
set_option maxHeartbeats 8000000 in
theorem ok__law_is_wrong {f fSd fOd fO fMd fIs fBr fFr : Addr} {fd fdSd fdOd fdO fdMd fdIs fdBr fdFr : FuncData}  {CH CS C CP : Addr} (F : Fun K "_law_is_wrong" "_law_is_wrong" a__law_is_wrong f fd) (Sd : Kn P w K mg base 2 "_law_standing" ["_law_pot_here", "_law_tops_here"] (spStand K) fSd fdSd) (Od : Kn P w K mg base 3 "_law_odd" ["_law_pot_here"] spOdd fOd fdOd) (O : Kn P w K mg base 2 "_law_of" ["_law_pot_here", "_law_some"] (spOf K) fO fdO) (Md : Kn P w K mg base 8 "_law_made" ["_law_plan", "_law_standing_here"] (spMade CH CS C CP) fMd fdMd) (Is : Kn P w K mg base 2 "_law_is_standing" ["_law_tops_here", "_law_thing"] spLStD fIs fdIs) (Br : Kn P w K mg base 2 "_law_broken" ["_law_rules_here", "_law_standing_here"] spBrk fBr fdBr) (Fr : FnG P w K mg base 8 fFr fdFr ["_law_rules_here", "_law_standing_here", "_law_hall"] (spFR CH CS C)) (gFr : mg "_law_first_right" = some (.ref fFr)) (kFr : PySem.W.keepIn K (.ref fFr) = true) (bFr : Binds K fdFr ["_law_rules_here", "_law_standing_here", "_law_hall"] [])  (m_range : mg "range" = none) (m_repr : mg "repr" = none) (m_tuple : mg "tuple" = none) : FnG P w K mg base 9 f fd ["_law_pot_here", "_law_plan", "_law_rules_here", "_law_tops_here"] (spIW CP) := by
  refine fnG F sc__law_is_wrong (fun vs H Q E h => ?_) (fun cdv A outer s H vs Q E hG hr h => ?_)
  · obtain ⟨a, x, R, t, tops, rs, c, rfl, _⟩ := h
    rfl
  · obtain ⟨a, x, R, t, tops, rs, c, rfl, pa, hc, hp, hR, et, few, t1, t4, l16, rok, q⟩ := h
    refine ⟨_, (pss_cons (ps_for PassesOwn.never rfl (pi_range1 (by rfl) m_range (pa_cons pe_int pa_nil)) (pg_name (i := 4) sc__law_is_wrong.nd rfl (.inl rfl))
        (C8.pss_cut (ps_set (i := 5) sc__law_is_wrong.nd rfl (.inl rfl) (pe_ifExp (pt_cmpR op_eq (pe_op op_mod (pv 4) pe_int) pe_int (nomark _)) (pe_kn Sd hr (by omega) (pa_cons (pv 0) (pa_cons (pv 3) pa_nil))) (pe_kn Od hr (by omega) (pa_cons (pv 0) pa_nil))))
      (pss_cons (ps_set (i := 6) sc__law_is_wrong.nd rfl (.inl rfl) (pe_kn O hr (by omega) (pa_cons (pv 0) (pa_cons (pe_lstN (pa_cons pe_non (pa_cons (pe_tup (pa_cons (pv 3) (pa_cons (pv 2) pa_nil))) (pa_cons (pv 3) (pa_cons pe_str (pa_cons pe_int (pa_cons (pe_lstN pa_nil) (pa_cons pe_dnewK (pa_cons pe_bl pa_nil))))))))) pa_nil))))
      (pss_cons (ps_if (pt_cmpR op_ne (pe_callB (call_reprA hG hr.units) (by rfl) m_repr (by decide +kernel) (pa_cons (pe_kn Md hr (by omega) (pa_cons (pv 6) (pa_cons (pv 5) pa_nil))) pa_nil)) (pe_callB (call_reprA hG hr.units) (by rfl) m_repr (by decide +kernel) (pa_cons (pe_tup (pa_cons pe_str (pa_cons pe_str pa_nil))) pa_nil)) (nomark _)) (pss_one (ps_ret pe_bl)) pss_nil)
      (pss_cons (ps_asg (pe_kn Md hr (by omega) (pa_cons (pv 1) (pa_cons (pv 5) pa_nil))) (pg_tup rfl (pgs_cons (pg_name (i := 7) sc__law_is_wrong.nd rfl (.inl rfl)) (pgs_cons (pg_name (i := 8) sc__law_is_wrong.nd rfl (.inl rfl)) pgs_nil))))
      (pss_one (ps_if (pt_not (pt_val (pe_kn Is hr (by omega) (pa_cons (pv 3) (pa_cons (pv 5) pa_nil))))) (pss_one (ps_if (PW.pt (pw_or (pt_cmpR op_ne (pv 7) pe_str (nomark _)) (pw_or1 (pt_cmpR op_ne (pe_callB (call_reprA hG hr.units) (by rfl) m_repr (by decide +kernel) (pa_cons (pv 8) pa_nil)) (pe_callB (call_reprA hG hr.units) (by rfl) m_repr (by decide +kernel) (pa_cons (pv 5) pa_nil)) (nomark _))))) (pss_one (ps_ret pe_bl)) pss_nil)) (pss_one (ps_if (pt_cmpR (op_neD hr.units) (pe_kn Br hr (by omega) (pa_cons (pv 2) (pa_cons (pv 5) pa_nil))) (pe_lstN pa_nil) (nomark _)) (pss_one (ps_if (PW.pt (pw_or (pt_cmpR op_ne (pv 7) pe_str (nomark _)) (pw_or1 (pt_cmpR op_ne (pe_callB (call_reprA hG hr.units) (by rfl) m_repr (by decide +kernel) (pa_cons (pv 8) pa_nil)) (pe_callB (call_reprA hG hr.units) (by rfl) m_repr (by decide +kernel) (pa_cons (pe_callTy call_tuple_of (by rfl) m_tuple (by decide +kernel) (pa_cons (pe_kn Br hr (by omega) (pa_cons (pv 2) (pa_cons (pv 5) pa_nil))) pa_nil)) pa_nil)) (nomark _))))) (pss_one (ps_ret pe_bl)) pss_nil)) (pss_one (ps_if (PW.pt (pw_or (pt_cmpR op_ne (pv 7) pe_str (nomark _)) (pw_or1 (pt_not (pt_val (pe_callG hG Fr (hr.mono (by omega)) (by rfl) gFr kFr bFr (pa_cons (pv 2) (pa_cons (pv 5) (pa_cons (pv 8) pa_nil))))))))) (pss_one (ps_ret pe_bl)) pss_nil)))))))))))
      (pss_one (ps_ret pe_bl))), ?_⟩
    have l12 : tops.length ≤ 12 := by omega
    refine ⟨12, rfl, by decide, by decide, for_it walk_range (fun i σ H' => (∃ u4 u5 u6 u7 u8, σ = [some (.ref a), some (.ref x), some (.ref R), some (.ref t), u4, u5, u6, u7, u8]) ∧ But a H H' ∧ PotAt H' a (c + 20 * i)) ⟨⟨none, none, none, none, none, rfl⟩, (fun _ _ _ e => e), pa⟩ (fun _ _ _ _ _ => trivial) (fun i v σ H1' H1 hi p y => ?_) (fun σ H1 p => ?_)⟩
    · obtain ⟨⟨u4, u5, u6, u7, u8, rfl⟩, b1, p1⟩ := p
      obtain ⟨rfl, rfl⟩ := y
      have i12 : i < 12 := by simpa using hi
      have k1 := Keep.but b1 pa
      have et1 := k1.tup et
      refine ⟨fun σ' H' => ∃ (v : V) (d : PyData), σ' = [some (.ref a), some (.ref x), some (.ref R), some (.ref t), some (.int (0 + (i : Nat))), some v, u6, u7, u8] ∧ But a H H' ∧ PotAt H' a (c + 20 * i + 12) ∧ Da a H' v d ∧ Sm d 4000 5, ?_, fun σ' H2 y => ?_⟩
      · refine ⟨.int (0 + (i : Nat)), rfl, _, 3, rfl, rfl, (show (0 : Int) < 3 by decide), rfl, _, rfl, ite2 (fun _ => ?_) (fun _ => ?_)⟩
        · refine ⟨.ref a, rfl, .ref t, rfl, a, t, tops, _, rfl, p1, .inl (.inl et1), few.pl, l12, by omega, fun H2 p st b2 p2 n2 e2 ls ps les => ⟨.ref p, .tuple (st.map PyData.int), rfl, b1.trans b2, p2, ints_da e2, ?_⟩⟩
          have i1 : SmE (st.map PyData.int) 0 := SmE.ints fun x hx => by
            have := ps x hx
            have b90 : ((10 ^ 90 : Nat) : Int) = (10 : Int) ^ 90 := by decide +kernel
            have big : (10 : Int) ^ 30 < 10 ^ 90 := by decide +kernel
            omega
          have w1 : PyData.weightAll (st.map PyData.int) ≤ 311 * st.length := by
            have := wt_all (b := 310) (ds := st.map PyData.int) fun d hd => by
              obtain ⟨x, hx, rfl⟩ := List.mem_map.mp hd
              have := ps x hx
              have b90 : ((10 ^ 90 : Nat) : Int) = (10 : Int) ^ 90 := by decide +kernel
              have big : (10 : Int) ^ 30 < 10 ^ 90 := by decide +kernel
              exact (Sm.int (i := x) (by omega)).wt
            rw [List.length_map] at this
            exact this
          exact (Sm.tup i1 w1).mono (by omega) (by decide)
        · exact ⟨.ref a, rfl, a, _, rfl, p1, by omega, fun v d H2 b2 p2 D2 S2 => ⟨v, d, rfl, b1.trans b2, p2.mono (by omega), D2.own, S2.mono (by decide) (by decide)⟩⟩
      · obtain ⟨v, d, rfl, b2, p2, hd, sm⟩ := y
        have k2 := Keep.but b2 pa
        have et2 := k2.tup et
        have hR2 := hR.keep k2
        refine ⟨.ref a, rfl, .ref t, rfl, .ref R, rfl, (show 2 ≤ sizeLine by decide), fun u nu => ?_⟩
        have su := same_new (o := HO.tup [V.ref t, .ref R]) nu
        have eu : (upd H2 u (HO.tup [V.ref t, .ref R])) u = some (.tup [V.ref t, .ref R]) := upd_same
        have p3 := p2.keep su
        have b3 := but_same b2 su
        have hd3 := hd.same su
        generalize upd H2 u (HO.tup [V.ref t, .ref R]) = H3 at su eu p3 b3 hd3 ⊢
        refine ⟨.ref t, rfl, (show 0 ≤ sizeLine by decide), fun l nl ml => ?_⟩
        have sl := same_new (o := HO.lst []) nl
        have el : (upd H3 l (HO.lst [])) l = some (.lst []) := upd_same
        have p4 := p3.keep sl
        have b4 := but_same b3 sl
        have hd4 := hd3.same sl
        have la := p3.ne nl
        generalize upd H3 l (HO.lst []) = H4 at sl el p4 b4 hd4 ⊢
        refine fun dd nd => ?_
        have sd := same_new (o := HO.dK []) nd
        have ed : (upd H4 dd (HO.dK [])) dd = some (.dK []) := upd_same
        have p5 := p4.keep sd
        have b5 := but_same b4 sd
        have hd5 := hd4.same sd
        generalize upd H4 dd (HO.dK []) = H5 at sd ed p5 b5 hd5 ⊢
        refine ⟨(show 8 ≤ sizeLine by decide), fun L nL mL => ?_⟩
        have sL := same_new (o := HO.lst [V.non, .ref u, .ref t, .str "things 1", .int 0, .ref l, .ref dd, .bl true]) nL
        have eL : (upd H5 L (HO.lst [V.non, .ref u, .ref t, .str "things 1", .int 0, .ref l, .ref dd, .bl true])) L = some (.lst [V.non, .ref u, .ref t, .str "things 1", .int 0, .ref l, .ref dd, .bl true]) := upd_same
        have p6 := p5.keep sL
        have b6 := but_same b5 sL
        have hd6 := hd5.same sL
        have La := p5.ne nL
        generalize upd H5 L (HO.lst [V.non, .ref u, .ref t, .str "things 1", .int 0, .ref l, .ref dd, .bl true]) = H6 at sL eL p6 b6 hd6 ⊢
        have s26 := ((su.trans sl).trans sd).trans sL
        refine ⟨a, L, _, _, rfl, p6, La, .inl (.inl (.inl eL)), (show 1 ≤ 8 by decide), (show 8 ≤ 1000000 by decide), by omega, fun y H7 hy b7 p7 => ?_⟩
        have bad : ∃ d1, Da a H6 y d1 := by
          have et6 := s26 _ _ et2
          have hR6 := hR2.keep (.same s26)
          simp only [List.mem_cons, List.not_mem_nil, or_false] at hy
          rcases hy with rfl | rfl | rfl | rfl | rfl | rfl | rfl | rfl
          · exact ⟨_, .non⟩
          · exact ⟨_, .tup (((sl.trans sd).trans sL) _ _ eu) (.cons (ints_da et6) (.cons (rules_da hR6) .nil))⟩
          · exact ⟨_, ints_da et6⟩
          · exact ⟨_, .str _⟩
          · exact ⟨_, .int _⟩
          · exact ⟨_, .lst ((sd.trans sL) _ _ el) ml la .nil⟩
          · exact ⟨_, .dct (sL _ _ ed) .nil⟩
          · exact ⟨_, .bl _⟩
        obtain ⟨d1, hd1⟩ := bad
        have hd7 : Da a H7 v d := Da.keep p6.lst b7 d v hd6
        have hd17 : Da a H7 y d1 := Da.keep p6.lst b7 d1 y hd1
        have b07 := b6.trans b7
        clear b6 b5 b4 b3 p6 p5 p4 p3 hd6 hd5 hd4 hd3 hd1 sL eL sd ed sl el su eu s26 hd p2
        refine ⟨y, rfl, v, rfl, a, y, v, d, rfl, hd7, .inl ⟨d1, hd17, fun H8 g s8 eg => ?_⟩⟩
        have neq : ∀ z : Str, (!decide (V.str z = V.str z)) = false := fun z => by simp
        have Dp2 : ∀ {g' : Addr} {H' : Hp}, H' g' = some (.tup [.str "plan", .str "plan"]) → Da a H' (.ref g') (.tuple [.str "plan", .str "plan"]) := fun e => .tup e (.cons (.str _) (.cons (.str _) .nil))
        have Sp2 : Sm (.tuple [.str "plan", .str "plan"]) 100 2 := ⟨by decide +kernel, by decide +kernel, by decide +kernel, by decide +kernel⟩
        refine ⟨a, _, .tuple [.str "plan", .str "plan"], 100, 2, rfl, Dp2 eg, Sp2, by decide, by decide, (show 2 ≤ sizeLine by decide), fun g2 ng2 => ?_⟩
        have s9 := s8.trans (same_new (o := HO.tup [.str "plan", .str "plan"]) ng2)
        have eg2 : (upd H8 g2 (HO.tup [.str "plan", .str "plan"])) g2 = some (.tup [.str "plan", .str "plan"]) := upd_same
        generalize upd H8 g2 (HO.tup [.str "plan", .str "plan"]) = H9 at s9 eg2 ⊢
        refine ⟨a, _, .tuple [.str "plan", .str "plan"], 100, 2, rfl, Dp2 eg2, Sp2, by decide, by decide, rfl, false, congrArg V.bl (neq _), iteF ?_⟩
        have b9 := but_same b07 s9
        have p9 := p7.keep s9
        have hd9 := hd7.same s9
        have k9 := Keep.but b9 pa
        have hp9 := hp.keep k9
        have et9 := k9.tup et
        have hR9 := hR.keep k9
        clear b07 p7 hd7 hd17 s9 s8 eg eg2
        refine ⟨.ref x, rfl, v, rfl, a, .ref x, v, d, rfl, hd9, .inr ⟨x, tops, rs, rfl, hp9, l12, by omega, rok, fun c H10 g s10 eg => ?_, fun c b H10 g qq s10 eg eq => ?_, fun c b H10 g xh sh ph own s10 eg hx ep => ?_⟩⟩
        · refine ⟨g, _, rfl, .inl (.inl eg), rfl, _, _, rfl, _, _, rfl, rfl, .ref t, rfl, v, rfl, a, t, tops, v, d, rfl, s10 _ _ et9, l12, hd9.same s10, fun H11 s11 => ⟨_, rfl, ?_⟩⟩
          rw [c]
          have s1011 := s10.trans s11
          have hd11 := hd9.same s1011
          refine iteT ⟨.str "standing", rfl, rfl, false, congrArg V.bl (neq _), iteF ⟨v, rfl, a, v, d, 4000, 5, rfl, hd11, sm, by decide, by decide, v, rfl, a, v, d, 4000, 5, rfl, hd11, sm, by decide, by decide, rfl, false, congrArg V.bl (neq _), iteF ?_⟩⟩
          exact ⟨⟨_, _, _, _, _, rfl⟩, but_same b9 s1011, (p9.keep s1011).mono (by omega)⟩
        · obtain ⟨p, rfl, ep, lp, bp⟩ := stand_at (hd9.same s10) c
          have smb := brok_sm (numsD d) rs l16
          generalize numsD d = xs at *
          refine ⟨g, _, rfl, .inl (.inl eg), rfl, _, _, rfl, _, _, rfl, rfl, .ref t, rfl, .ref p, rfl, a, t, tops, .ref p, d, rfl, s10 _ _ et9, l12, hd9.same s10, fun H11 s11 => ⟨_, rfl, ?_⟩⟩
          rw [c]
          have s1011 := s10.trans s11
          refine iteF ⟨.ref R, rfl, .ref p, rfl, R, p, rs, xs, rfl, hR9.keep (.same s1011), s11 _ _ ep, by omega, fun q hq => fit_of (rok q hq) lp, fun H12 l s12 nl el => ⟨(show 0 ≤ sizeLine by decide), fun e ne me => ?_⟩⟩
          have se := same_new (o := HO.lst []) ne
          have ee : (upd H12 e (HO.lst [])) e = some (.lst []) := upd_same
          have el' := se _ _ el
          generalize upd H12 e (HO.lst []) = H13 at se ee el' ⊢
          refine ⟨_, _, .lst (.inl (.inl el')) (dps _), .lst (.inl (.inl ee)) .nil, shaped_ints_l _, rfl, true, congrArg V.bl (by rw [eqv_nilL, decide_eq_false b]; rfl), iteT ?_⟩
          have s1013 := (s1011.trans s12).trans se
          have eq13 := ((s11.trans s12).trans se) _ _ eq
          have ep13 := ((s11.trans s12).trans se) _ _ ep
          refine ⟨.str "broken", rfl, rfl, false, congrArg V.bl (neq _), iteF ⟨.ref qq, rfl, a, .ref qq, _, 6000, 1, rfl, ints_da eq13, smb, by decide, by decide, .ref R, rfl, .ref p, rfl, R, p, rs, xs, rfl, hR9.keep (.same s1013), ep13, by omega, fun q hq => fit_of (rok q hq) lp, fun H14 l2 s14 nl2 el2 => ⟨l2, _, rfl, .inl ⟨.inl (.inl el2), fun gt ngt => ?_⟩⟩⟩⟩
          have sg := same_new (o := HO.tup ((brok xs rs).map V.int)) ngt
          have egt : (upd H14 gt (HO.tup ((brok xs rs).map V.int))) gt = some (.tup ((brok xs rs).map V.int)) := upd_same
          generalize upd H14 gt (HO.tup ((brok xs rs).map V.int)) = H15 at sg egt ⊢
          have s1015 := (s1013.trans s14).trans sg
          refine ⟨a, .ref gt, _, 6000, 1, rfl, ints_da egt, smb, by decide, by decide, rfl, false, congrArg V.bl (neq _), iteF ?_⟩
          exact ⟨⟨_, _, _, _, _, rfl⟩, but_same b9 s1015, (p9.keep s1015).mono (by omega)⟩
        · obtain ⟨p, rfl, epp, lp, bp⟩ := stand_at (hd9.same s10) c
          generalize numsD d = xs at *
          refine ⟨g, _, rfl, .inl (.inl eg), rfl, _, _, rfl, _, _, rfl, rfl, .ref t, rfl, .ref p, rfl, a, t, tops, .ref p, d, rfl, s10 _ _ et9, l12, hd9.same s10, fun H11 s11 => ⟨_, rfl, ?_⟩⟩
          rw [c]
          have s1011 := s10.trans s11
          refine iteF ⟨.ref R, rfl, .ref p, rfl, R, p, rs, xs, rfl, hR9.keep (.same s1011), s11 _ _ epp, by omega, fun q hq => fit_of (rok q hq) lp, fun H12 l s12 nl el => ⟨(show 0 ≤ sizeLine by decide), fun e ne me => ?_⟩⟩
          have se := same_new (o := HO.lst []) ne
          have ee : (upd H12 e (HO.lst [])) e = some (.lst []) := upd_same
          have el' := se _ _ el
          generalize upd H12 e (HO.lst []) = H13 at se ee el' ⊢
          refine ⟨_, _, .lst (.inl (.inl el')) (dps _), .lst (.inl (.inl ee)) .nil, shaped_ints_l _, rfl, false, congrArg V.bl (by rw [eqv_nilL, decide_eq_true b]; rfl), iteF ?_⟩
          have s1113 := (s11.trans s12).trans se
          have s1013 := s10.trans s1113
          have plx : ∀ z ∈ xs, 0 ≤ z ∧ z < 10 ^ 30 := fun z hz => by
            obtain ⟨j, ej⟩ := List.getElem?_of_mem hz
            have jl : j < tops.length := by rw [← lp]; exact (List.getElem?_eq_some_iff.mp ej).1
            have et' : tops[j]? = some tops[j] := List.getElem?_eq_getElem jl
            have h1 := bp j z _ ej et'
            have h2 := few.pl _ (List.getElem_mem jl)
            omega
          refine ⟨.str "hall", rfl, rfl, false, congrArg V.bl (neq _), iteF ⟨.ref R, rfl, .ref p, rfl, .ref xh, rfl, R, p, xh, sh, ph, tops, xs, rs, own, rfl, hR9.keep (.same s1013), s1113 _ _ epp, hx.same s1113, s1113 _ _ ep, l16, by omega, by omega, plx, fun q hq => by rw [lp]; exact rl_fit (rok q hq), fun H14 s14 => ⟨_, rfl, iteF ?_⟩⟩⟩
          have s1014 := s1013.trans s14
          exact ⟨⟨_, _, _, _, _, rfl⟩, but_same b9 s1014, (p9.keep s1014).mono (by omega)⟩
    · obtain ⟨_, b1, p1⟩ := p
      exact q _ b1 (p1.mono (by omega))
end
end K66

set_option Elab.async false
set_option linter.all false
set_option maxRecDepth 100000
namespace K66
open PySem PySem.Spec PyProof.Rows L2 NB

/-! ### the law -/
def spHaGood (CH CS C CP : Addr) : Sp := fun vs H Q _ => ∃ (x dx xp tS : Addr) (tops xs : List Int) (rs : List Rl), vs = [.ref x, .ref xp, .ref tS] ∧ H x = some (.ins CH dx []) ∧ PlanAt CP H xp tops rs ∧ H tS = some (.tup (xs.map V.int)) ∧ xs.length = tops.length ∧ tops.length ≤ 12 ∧ (∀ (i : Nat) (y t : Int), xs[i]? = some y → tops[i]? = some t → 0 ≤ y ∧ y ≤ t) ∧ rs.length ≤ 40 ∧ (∀ q ∈ rs, RuleOk tops q ∧ kept xs q = true) ∧
  ∀ H' s p own, (∀ b o, b ≠ x → H b = some o → H' b = some o) → HallAt CH CS C H' x s p own (firstS tops xs rs) → H' p = some (.tup []) → Q .non H'
theorem ints_stand : ∀ {tops n : List Int}, n.length = tops.length → (∀ (i : Nat) (y t : Int), n[i]? = some y → tops[i]? = some t → 0 ≤ y ∧ y ≤ t) → ((tops.zip (n.map PyData.int)).all fun p => placeD p.1 p.2) = true ∧ (n.map PyData.int).map numD = n
  | [], [], _, _ => ⟨rfl, rfl⟩
  | t :: ts, x :: xs, l, h => by
    obtain ⟨h1, h2⟩ := ints_stand (tops := ts) (n := xs) (by simpa using l) fun i y t e1 e2 => h (i + 1) y t e1 e2
    have h0 := h 0 x t rfl rfl
    refine ⟨?_, by rw [List.map_cons, List.map_cons, h2]; rfl⟩
    rw [List.map_cons, List.zip_cons_cons, List.all_cons, h1, Bool.and_true]
    show (decide (0 ≤ x) && decide (x ≤ t)) = true
    rw [decide_eq_true h0.1, decide_eq_true h0.2]
    rfl
  | [], _ :: _, l, _ => by cases l
  | _ :: _, [], l, _ => by cases l
section
variable {P : Program} {w : World} {K : PySem.W.Frag} {mg : Str → Option Value} {base : Heap}
theorem hall_good {CH CS C CP CNP CN CB fH : Addr} {fdH : FuncData} {k : Nat} {ps : List Str} (F : FnOk P w K mg base (L2.CX P w) k fH fdH ps (spHaInit CH CS C CP CNP CN CB)) : FnOk P w K mg base CX0 k fH fdH ps (spHaGood CH CS C CP) := FnOk.noX F fun vs H Q E h => by
  obtain ⟨x, dx, xp, tS, tops, xs, rs, rfl, ex, hp, eS, lx, l12, bd, l40, ok, q⟩ := h
  obtain ⟨a1, a2⟩ := ints_stand lx bd
  have sd : standingD tops (.tuple (xs.map PyData.int)) = true := by
    show (decide ((xs.map PyData.int).length = tops.length) && (tops.zip (xs.map PyData.int)).all fun p => placeD p.1 p.2) = true
    rw [a1, decide_eq_true (by rw [List.length_map]; exact lx)]
    rfl
  have nd : numsD (.tuple (xs.map PyData.int)) = xs := a2
  have bk : brok xs rs = [] := (brok_nil xs rs).mpr (List.all_eq_true.mpr fun q hq => (ok q hq).2)
  refine ⟨x, dx, 0, .ref xp, .ref tS, .tuple (xs.map PyData.int), rfl, ex, ints_da eS, .inr ⟨xp, tops, rs, rfl, hp, l12, l40, fun q hq => (ok q hq).1, fun z => ?_, fun _ z => ?_, fun _ _ H' s p own kp hx ep fr => ?_⟩⟩
  · rw [sd] at z
    cases z
  · rw [nd] at z
    exact absurd bk z
  · rw [nd] at hx
    exact q H' s p own kp hx ep
def spLaw (K : PySem.W.Frag) : Sp := fun vs H Q _ => ∃ (a : Addr) (ns : List Int), vs = [.ref a] ∧ SqL K H a (ns.map V.int) ∧ ns.length ≤ 63 ∧ ∀ H', Q (.bl true) H'
abbrev a_law : Stmt := topS 73
abbrev n_law : List Str := ["_law_script", "_law_k", "_law_pot_here", "_law_tops_here", "_law_begin", "_law_rules_here", "_law_plan"]
theorem sc_law : FnScope n_law ["_law_script"] (defScope a_law) := ⟨rfl, rfl, rfl, by decide +kernel, rfl, by decide +kernel, by decide +kernel⟩
set_option maxHeartbeats 8000000 in
theorem ok_law {f fPo fCa fFr fIw : Addr} {fd fdPo fdCa fdFr fdIw : FuncData}  {CH CS C CP f0 fH : Addr} {fd0 fdH : FuncData} (F : Fun K "law" "law" a_law f fd) (Po : Kn P w K mg base 1 "_law_pot" ["_law_script", "_law_k"] (spPot K) fPo fdPo) (Ca : Kn P w K mg base 4 "_law_case" ["_law_pot_here", "_law_many"] spCase fCa fdCa) (Fr : FnG P w K mg base 8 fFr fdFr ["_law_rules_here", "_law_standing_here", "_law_hall"] (spFR CH CS C)) (gFr : mg "_law_first_right" = some (.ref fFr)) (kFr : PySem.W.keepIn K (.ref fFr) = true) (bFr : Binds K fdFr ["_law_rules_here", "_law_standing_here", "_law_hall"] []) (Iw : FnG P w K mg base 9 fIw fdIw ["_law_pot_here", "_law_plan", "_law_rules_here", "_law_tops_here"] (spIW CP)) (gIw : mg "_law_is_wrong" = some (.ref fIw)) (kIw : PySem.W.keepIn K (.ref fIw) = true) (bIw : Binds K fdIw ["_law_pot_here", "_law_plan", "_law_rules_here", "_law_tops_here"] []) (TX : PlanTxt K mg CP) (M : Mk K CP f0) (GI : FnOk P w K mg base CX0 7 f0 fd0 ["self", "tops", "rules"] (spInit CP)) (bI : Binds K fd0 ["self", "tops", "rules"] []) (MH : Mk K CH fH) (GH : FnOk P w K mg base CX0 6 fH fdH ["self", "plan", "standing"] (spHaGood CH CS C CP)) (bH : Binds K fdH ["self", "plan", "standing"] []) (mgH : mg "Hall" = some (.ref CH)) (m_len : mg "len" = none) (m_min : mg "min" = none) (m_range : mg "range" = none) : FnG P w K mg base 11 f fd ["_law_script"] (spLaw K) := by
  refine fnG F sc_law (fun vs H Q E h => ?_) (fun cdv A outer s H vs Q E hG hr h => ?_)
  · obtain ⟨a, ns, rfl, _⟩ := h
    rfl
  · obtain ⟨a, ns, rfl, hS, hn, q⟩ := h
    refine ⟨_, (pss_cons (ps_for PassesOwn.never rfl (pi_range1 (by rfl) m_range (pa_cons (pe_op op_add pe_int (pe_callB (call_min2 rfl) (by rfl) m_min (by decide +kernel) (pa_cons pe_int (pa_cons (pe_callB call_len_seq (by rfl) m_len (by decide +kernel) (pa_cons (pv 0) pa_nil)) pa_nil)))) pa_nil)) (pg_name (i := 1) sc_law.nd rfl (.inl rfl))
        (pss_cons (ps_set (i := 2) sc_law.nd rfl (.inl rfl) (pe_kn Po hr (by omega) (pa_cons (pv 0) (pa_cons (pv 1) pa_nil))))
      (pss_cons (ps_asg (pe_kn Ca hr (by omega) (pa_cons (pv 2) (pa_cons pe_int pa_nil))) (pg_tup rfl (pgs_cons (pg_name (i := 3) sc_law.nd rfl (.inl rfl)) (pgs_cons (pg_name (i := 4) sc_law.nd rfl (.inl rfl)) (pgs_cons (pg_name (i := 5) sc_law.nd rfl (.inl rfl)) pgs_nil)))))
      (pss_cons (ps_set (i := 6) sc_law.nd rfl (.inl rfl) (pe_make M GI (hr.mono (by omega)) (by rfl) TX.mgC bI .nil pass0 (pa_cons (pv 3) (pa_cons (pv 5) pa_nil))))
      (pss_one (ps_if (PW.pt (pw_or (pt_not (pt_val (pe_callG hG Fr (hr.mono (by omega)) (by rfl) gFr kFr bFr (pa_cons (pv 5) (pa_cons (pv 4) (pa_cons (pe_make MH GH (hr.mono (by omega)) (by rfl) mgH bH .nil pass0 (pa_cons (pv 6) (pa_cons (pv 4) pa_nil))) pa_nil)))))) (pw_or1 (pt_val (pe_callG hG Iw (hr.mono (by omega)) (by rfl) gIw kIw bIw (pa_cons (pv 2) (pa_cons (pv 6) (pa_cons (pv 5) (pa_cons (pv 3) pa_nil))))))))) (pss_one (ps_ret pe_bl)) pss_nil))))))
      (pss_one (ps_ret pe_bl))), ?_⟩
    refine ⟨.ref a, rfl, a, _, rfl, .inl hS, 2, _, rfl, 1, _, rfl, rfl, _, rfl, ?_, ?_, for_it walk_range (fun i σ H' => (∃ u1 u2 u3 u4 u5 u6, σ = [some (.ref a), u1, u2, u3, u4, u5, u6]) ∧ Same H H') ⟨⟨_, _, _, _, _, _, rfl⟩, Same.refl H⟩ (fun _ _ _ _ _ => trivial) (fun i v σ H0' H0 hi y z => ?_) (fun σ H0 y => q H0)⟩
    · split <;> omega
    · split <;> omega
    obtain ⟨⟨u1, u2, u3, u4, u5, u6, rfl⟩, s0⟩ := y
    obtain ⟨rfl, rfl⟩ := z
    have i5 : i < 5 := by
      revert hi
      split <;> intro hi <;> omega
    refine ⟨.ref a, rfl, _, rfl, a, ns, i, by show [V.ref a, V.int (0 + (i : Int))] = _; rw [Int.zero_add], s0.seq hS, by omega, fun H1 p s1 np pp1 => ?_⟩
    have npH : H0 p = none := np
    have B1 : But p H0 H1 := But.of s1
    dsimp only [List.set]
    refine ⟨.ref p, rfl, p, 10, 0, rfl, pp1, by decide, by decide, by omega, fun H2 g pt pb R tops st rs b2 p2 eg et hst hR t1 t4 few lr ok => ?_⟩
    refine ⟨g, _, rfl, .inl (.inl eg), rfl, _, _, rfl, _, _, rfl, _, _, rfl, rfl, ?_⟩
    refine ⟨.ref pt, rfl, .ref R, rfl, fun x dx nx ndx ne => ?_⟩
    refine plan_made (C := CP) (rs := rs) nx ndx ne et hR t1 (by omega) few.pl (by omega) (fun q hq => (ok q hq).1) fun H3 s3 hp => ⟨rfl, ?_⟩
    have p3 := p2.keep s3
    have hR3 := hR.keep (.same s3)
    have et3 := s3 _ _ et
    have hst3 := hst.keep (.same s3)
    have bd : ∀ (i : Nat) (y t : Int), st[i]? = some y → tops[i]? = some t → 0 ≤ y ∧ y ≤ t := fun i y t e1 e2 => ⟨(hst.pl y (List.mem_of_getElem? e1)).1, hst.le i y t e1 e2⟩
    refine ⟨.ref R, rfl, .ref pb, rfl, .ref x, rfl, .ref pb, rfl, fun y dy ny ndy ney => ?_⟩
    have s4 : Same H3 (upd (upd H3 dy (.own y)) y (.ins CH dy [])) := (same_new ndy).trans (same_new (by rw [upd_ne ney.symm]; exact ny))
    have ey : (upd (upd H3 dy (.own y)) y (.ins CH dy [])) y = some (.ins CH dy []) := upd_same
    generalize upd (upd H3 dy (.own y)) y (.ins CH dy []) = H4 at s4 ey ⊢
    refine ⟨y, dy, x, pb, tops, st, rs, rfl, ey, hp.keep (.same s4), s4 _ _ hst3.at', hst.len, by omega, bd, by omega, ok, fun H5 s pp own kp hx ep => ⟨rfl, ?_⟩⟩
    have s5 : Same H3 H5 := fun b o e => kp b o (fun z => by rw [z, ny] at e; cases e) (s4 _ _ e)
    have l16 : rs.length ≤ 16 := by omega
    have lst := hst.len
    refine ⟨R, pb, y, s, pp, tops, st, rs, own, rfl, hR3.keep (.same s5), s5 _ _ hst3.at', hx, ep, l16, by omega, by omega, hst.pl, fun q hq => by rw [lst]; exact rl_fit (ok q hq).1, fun H6 s6 => ⟨_, rfl, iteF ?_⟩⟩
    have s36 := s5.trans s6
    refine ⟨.ref p, rfl, .ref x, rfl, .ref R, rfl, .ref pt, rfl, p, x, R, pt, tops, rs, _, rfl, p3.keep s36, by decide, hp.keep (.same s36), hR3.keep (.same s36), s36 _ _ et3, few, t1, t4, l16, fun q hq => (ok q hq).1, fun H7 b7 p7 => ⟨_, rfl, iteF ⟨⟨_, _, _, _, _, _, rfl⟩, ?_⟩⟩⟩
    have bAll : But p H0 H7 := (but_same (but_same (B1.trans b2) s3) s36).trans b7
    exact s0.trans fun b o e => bAll b o (ne_of_none e npH) e
end
end K66

set_option Elab.async false
set_option linter.all false
set_option maxRecDepth 100000
namespace K66
open PySem PySem.Spec PyProof.Rows L2 NB

/-! ### classes, for the end -/
theorem kit_self {K : PySem.W.Frag} {C : Addr} : PySem.W.kitOne K (.ref C) (.ref C) = some true := by
  unfold PySem.W.kitOne
  rw [if_pos (by simp)]
theorem kit_tyno {K : PySem.W.Frag} {C : Addr} (h1 : PySem.W.hasDictIn K C = true) (h2 : PySem.W.typeIn K (.ref C) = some (.type "type")) (d : PyData) : PySem.W.kitOne K (.type (tyD d)) (.ref C) = some false := by
  have n : ∀ T : String, ¬ ((Value.type T == Value.ref C) = true) := fun T z => by
    have e : Value.type T = Value.ref C := by first | exact beq_iff_eq.mp z | exact eq_of_beq z
    cases e
  have s : PySem.W.subIn K (.type (tyD d)) (.ref C) = some false := by
    cases d with
    | none => show PySem.W.subIn K (.type "NoneType") _ = _; first | rfl | kernel_rfl
    | bool _ => show PySem.W.subIn K (.type "bool") _ = _; first | rfl | kernel_rfl
    | int _ => show PySem.W.subIn K (.type "int") _ = _; first | rfl | kernel_rfl
    | str _ => show PySem.W.subIn K (.type "str") _ = _; first | rfl | kernel_rfl
    | list _ => show PySem.W.subIn K (.type "list") _ = _; first | rfl | kernel_rfl
    | tuple _ => show PySem.W.subIn K (.type "tuple") _ = _; first | rfl | kernel_rfl
    | dict _ => show PySem.W.subIn K (.type "dict") _ = _; first | rfl | kernel_rfl
  unfold PySem.W.kitOne
  rw [if_neg (n _)]
  obtain ⟨cd, hc, _⟩ := PySem.W.any_some h1
  show (if ((PySem.W.clsIn K C).isSome && PySem.W.typeIn K (.ref C) == some (.type "type")) = true then PySem.W.subIn K (.type (tyD d)) (.ref C) else none) = _
  rw [hc, h2, if_pos (by first | (rw [Option.isSome_some, Bool.true_and]; exact beq_self_eq_true _) | simp), s]
theorem exm_no {K : PySem.W.Frag} {X S : Addr} (h1 : PySem.W.subIn K (.ref S) (.type "BaseException") = some true) (h2 : PySem.W.isClsIn K S = true) (h3 : PySem.W.typeIn K (.ref S) = some (.type "type")) (h4 : PySem.W.subIn K (.ref X) (.ref S) = some false) :
    PySem.W.exmOne K (.ref X) (.ref S) = some false := by
  have e1 : (PySem.W.subIn K (.ref S) (.type "BaseException") == some true) = true := by rw [h1] <;> rfl
  have e2 : ((PySem.W.clsIn K S).isSome && PySem.W.typeIn K (.ref S) == some (.type "type")) = true := by
    have h2' : (PySem.W.clsIn K S).isSome = true := h2
    rw [h2', h3] <;> rfl
  show (if (PySem.W.subIn K (.ref S) (.type "BaseException") == some true) = true then (if ((PySem.W.clsIn K S).isSome && PySem.W.typeIn K (.ref S) == some (.type "type")) = true then PySem.W.subIn K (.ref X) (.ref S) else none) else none) = some false
  rw [if_pos e1, if_pos e2]
  exact h4
end K66

set_option Elab.async false
set_option linter.all false
set_option maxRecDepth 100000
namespace K66
open PySem PySem.Spec PyProof.Rows L2 NB
set_option maxHeartbeats 8000000 in
theorem all_mk {l : PySem.W.OpenLaw} {w : World} {K : PySem.W.Frag} {h : Heap} {mg : Str → Option Value} {fa : Addr} (X : K.In h) (G : h.Ns mainGlobals mg) (hfa : mg "law" = some (.ref fa))
    {f1 : Addr} {od1 an1 : Option Addr} {sl1 : Array (Option Value)} {oc1 kV1 dc1 pm1 cd1 ct1 : Value}
    {f2 : Addr} {od2 an2 : Option Addr} {sl2 : Array (Option Value)} {oc2 kV2 dc2 pm2 cd2 ct2 : Value}
    {f3 : Addr} {od3 an3 : Option Addr} {sl3 : Array (Option Value)} {oc3 kV3 dc3 pm3 cd3 ct3 : Value}
    {f4 : Addr} {od4 an4 : Option Addr} {sl4 : Array (Option Value)} {oc4 kV4 dc4 pm4 cd4 ct4 : Value}
    {f5 : Addr} {od5 an5 : Option Addr} {sl5 : Array (Option Value)} {oc5 kV5 dc5 pm5 cd5 ct5 : Value}
    {f6 : Addr} {od6 an6 : Option Addr} {sl6 : Array (Option Value)} {oc6 kV6 dc6 pm6 cd6 ct6 : Value}
    {f7 : Addr} {od7 an7 : Option Addr} {sl7 : Array (Option Value)} {oc7 kV7 dc7 pm7 cd7 ct7 : Value}
    {f8 : Addr} {od8 an8 : Option Addr} {sl8 : Array (Option Value)} {oc8 kV8 dc8 pm8 cd8 ct8 : Value}
    {f9 : Addr} {od9 an9 : Option Addr} {sl9 : Array (Option Value)} {oc9 kV9 dc9 pm9 cd9 ct9 : Value}
    {f10 : Addr} {od10 an10 : Option Addr} {sl10 : Array (Option Value)} {oc10 kV10 dc10 pm10 cd10 ct10 : Value}
    {f11 : Addr} {od11 an11 : Option Addr} {sl11 : Array (Option Value)} {oc11 kV11 dc11 pm11 cd11 ct11 : Value}
    {f12 : Addr} {od12 an12 : Option Addr} {sl12 : Array (Option Value)} {oc12 kV12 dc12 pm12 cd12 ct12 : Value}
    {f13 : Addr} {od13 an13 : Option Addr} {sl13 : Array (Option Value)} {oc13 kV13 dc13 pm13 cd13 ct13 : Value}
    {f14 : Addr} {od14 an14 : Option Addr} {sl14 : Array (Option Value)} {oc14 kV14 dc14 pm14 cd14 ct14 : Value}
    {f15 : Addr} {od15 an15 : Option Addr} {sl15 : Array (Option Value)} {oc15 kV15 dc15 pm15 cd15 ct15 : Value}
    {f16 : Addr} {od16 an16 : Option Addr} {sl16 : Array (Option Value)} {oc16 kV16 dc16 pm16 cd16 ct16 : Value}
    {f17 : Addr} {od17 an17 : Option Addr} {sl17 : Array (Option Value)} {oc17 kV17 dc17 pm17 cd17 ct17 : Value}
    {f18 : Addr} {od18 an18 : Option Addr} {sl18 : Array (Option Value)} {oc18 kV18 dc18 pm18 cd18 ct18 : Value}
    {f19 : Addr} {od19 an19 : Option Addr} {sl19 : Array (Option Value)} {oc19 kV19 dc19 pm19 cd19 ct19 : Value}
    {f20 : Addr} {od20 an20 : Option Addr} {sl20 : Array (Option Value)} {oc20 kV20 dc20 pm20 cd20 ct20 : Value}
    {f21 : Addr} {od21 an21 : Option Addr} {sl21 : Array (Option Value)} {oc21 kV21 dc21 pm21 cd21 ct21 : Value}
    {f22 : Addr} {od22 an22 : Option Addr} {sl22 : Array (Option Value)} {oc22 kV22 dc22 pm22 cd22 ct22 : Value}
    {f23 : Addr} {od23 an23 : Option Addr} {sl23 : Array (Option Value)} {oc23 kV23 dc23 pm23 cd23 ct23 : Value}
    {f24 : Addr} {od24 an24 : Option Addr} {sl24 : Array (Option Value)} {oc24 kV24 dc24 pm24 cd24 ct24 : Value}
    {f25 : Addr} {od25 an25 : Option Addr} {sl25 : Array (Option Value)} {oc25 kV25 dc25 pm25 cd25 ct25 : Value}
    {f26 : Addr} {od26 an26 : Option Addr} {sl26 : Array (Option Value)} {oc26 kV26 dc26 pm26 cd26 ct26 : Value}
    {f27 : Addr} {od27 an27 : Option Addr} {sl27 : Array (Option Value)} {oc27 kV27 dc27 pm27 cd27 ct27 : Value}
    {f28 : Addr} {od28 an28 : Option Addr} {sl28 : Array (Option Value)} {oc28 kV28 dc28 pm28 cd28 ct28 : Value}
    {f29 : Addr} {od29 an29 : Option Addr} {sl29 : Array (Option Value)} {oc29 kV29 dc29 pm29 cd29 ct29 : Value}
    {f30 : Addr} {od30 an30 : Option Addr} {sl30 : Array (Option Value)} {oc30 kV30 dc30 pm30 cd30 ct30 : Value}
    {f31 : Addr} {od31 an31 : Option Addr} {sl31 : Array (Option Value)} {oc31 kV31 dc31 pm31 cd31 ct31 : Value}
    {f32 : Addr} {od32 an32 : Option Addr} {sl32 : Array (Option Value)} {oc32 kV32 dc32 pm32 cd32 ct32 : Value}
    {f33 : Addr} {od33 an33 : Option Addr} {sl33 : Array (Option Value)} {oc33 kV33 dc33 pm33 cd33 ct33 : Value}
    {f34 : Addr} {od34 an34 : Option Addr} {sl34 : Array (Option Value)} {oc34 kV34 dc34 pm34 cd34 ct34 : Value}
    {f35 : Addr} {od35 an35 : Option Addr} {sl35 : Array (Option Value)} {oc35 kV35 dc35 pm35 cd35 ct35 : Value}
    {f36 : Addr} {od36 an36 : Option Addr} {sl36 : Array (Option Value)} {oc36 kV36 dc36 pm36 cd36 ct36 : Value}
    {f37 : Addr} {od37 an37 : Option Addr} {sl37 : Array (Option Value)} {oc37 kV37 dc37 pm37 cd37 ct37 : Value}
    {f38 : Addr} {od38 an38 : Option Addr} {sl38 : Array (Option Value)} {oc38 kV38 dc38 pm38 cd38 ct38 : Value}
    {f39 : Addr} {od39 an39 : Option Addr} {sl39 : Array (Option Value)} {oc39 kV39 dc39 pm39 cd39 ct39 : Value}
    {C f0 Td e0 wa : Addr} {od0 an0 odT odW : Option Addr} {sl0 slT slW : Array (Option Value)} {oc0 kV0 dc0 pm0 cd0 ct0 ocT : Value} {nT nW : Nat} {tk1 tk2 tk3 tk4 tk5 : Tok}
    (a1 : PySem.W.nsIn K mainGlobals "is_whole" = some (some (.ref f1)))
    (l1 : K.lookup f1 = some ⟨oc1, od1, .func (PySem.W.fnOf "is_whole" "is_whole" (defArgs a_is_whole) (defBody a_is_whole) (defScope a_is_whole) .none kV1 dc1 pm1 an1 cd1 ct1), sl1⟩)
    (c1 : PySem.W.codeIn K cd1 "is_whole" = true) (k1 : PySem.W.keepIn K (.ref f1) = true)
    (a2 : PySem.W.nsIn K mainGlobals "is_place" = some (some (.ref f2)))
    (l2 : K.lookup f2 = some ⟨oc2, od2, .func (PySem.W.fnOf "is_place" "is_place" (defArgs a_is_place) (defBody a_is_place) (defScope a_is_place) .none kV2 dc2 pm2 an2 cd2 ct2), sl2⟩)
    (c2 : PySem.W.codeIn K cd2 "is_place" = true) (k2 : PySem.W.keepIn K (.ref f2) = true)
    (a3 : PySem.W.nsIn K mainGlobals "are_tops" = some (some (.ref f3)))
    (l3 : K.lookup f3 = some ⟨oc3, od3, .func (PySem.W.fnOf "are_tops" "are_tops" (defArgs kTops) (defBody kTops) (defScope kTops) .none kV3 dc3 pm3 an3 cd3 ct3), sl3⟩)
    (c3 : PySem.W.codeIn K cd3 "are_tops" = true) (k3 : PySem.W.keepIn K (.ref f3) = true)
    (a4 : PySem.W.nsIn K mainGlobals "is_side_of" = some (some (.ref f4)))
    (l4 : K.lookup f4 = some ⟨oc4, od4, .func (PySem.W.fnOf "is_side_of" "is_side_of" (defArgs kSide) (defBody kSide) (defScope kSide) .none kV4 dc4 pm4 an4 cd4 ct4), sl4⟩)
    (c4 : PySem.W.codeIn K cd4 "is_side_of" = true) (k4 : PySem.W.keepIn K (.ref f4) = true)
    (a5 : PySem.W.nsIn K mainGlobals "are_sides_of" = some (some (.ref f5)))
    (l5 : K.lookup f5 = some ⟨oc5, od5, .func (PySem.W.fnOf "are_sides_of" "are_sides_of" (defArgs kSides) (defBody kSides) (defScope kSides) .none kV5 dc5 pm5 an5 cd5 ct5), sl5⟩)
    (c5 : PySem.W.codeIn K cd5 "are_sides_of" = true) (k5 : PySem.W.keepIn K (.ref f5) = true)
    (a6 : PySem.W.nsIn K mainGlobals "is_rule_of" = some (some (.ref f6)))
    (l6 : K.lookup f6 = some ⟨oc6, od6, .func (PySem.W.fnOf "is_rule_of" "is_rule_of" (defArgs kRule) (defBody kRule) (defScope kRule) .none kV6 dc6 pm6 an6 cd6 ct6), sl6⟩)
    (c6 : PySem.W.codeIn K cd6 "is_rule_of" = true) (k6 : PySem.W.keepIn K (.ref f6) = true)
    (a7 : PySem.W.nsIn K mainGlobals "are_rules_of" = some (some (.ref f7)))
    (l7 : K.lookup f7 = some ⟨oc7, od7, .func (PySem.W.fnOf "are_rules_of" "are_rules_of" (defArgs kRules) (defBody kRules) (defScope kRules) .none kV7 dc7 pm7 an7 cd7 ct7), sl7⟩)
    (c7 : PySem.W.codeIn K cd7 "are_rules_of" = true) (k7 : PySem.W.keepIn K (.ref f7) = true)
    (a8 : PySem.W.nsIn K mainGlobals "is_standing" = some (some (.ref f8)))
    (l8 : K.lookup f8 = some ⟨oc8, od8, .func (PySem.W.fnOf "is_standing" "is_standing" (defArgs a_is_standing) (defBody a_is_standing) (defScope a_is_standing) .none kV8 dc8 pm8 an8 cd8 ct8), sl8⟩)
    (c8 : PySem.W.codeIn K cd8 "is_standing" = true) (k8 : PySem.W.keepIn K (.ref f8) = true)
    (a9 : PySem.W.nsIn K mainGlobals "is_in" = some (some (.ref f9)))
    (l9 : K.lookup f9 = some ⟨oc9, od9, .func (PySem.W.fnOf "is_in" "is_in" (defArgs a_is_in) (defBody a_is_in) (defScope a_is_in) .none kV9 dc9 pm9 an9 cd9 ct9), sl9⟩)
    (c9 : PySem.W.codeIn K cd9 "is_in" = true) (k9 : PySem.W.keepIn K (.ref f9) = true)
    (a10 : PySem.W.nsIn K mainGlobals "is_kept" = some (some (.ref f10)))
    (l10 : K.lookup f10 = some ⟨oc10, od10, .func (PySem.W.fnOf "is_kept" "is_kept" (defArgs kKept) (defBody kKept) (defScope kKept) .none kV10 dc10 pm10 an10 cd10 ct10), sl10⟩)
    (c10 : PySem.W.codeIn K cd10 "is_kept" = true) (k10 : PySem.W.keepIn K (.ref f10) = true)
    (a11 : PySem.W.nsIn K mainGlobals "is_shared" = some (some (.ref f11)))
    (l11 : K.lookup f11 = some ⟨oc11, od11, .func (PySem.W.fnOf "is_shared" "is_shared" (defArgs a_is_shared) (defBody a_is_shared) (defScope a_is_shared) .none kV11 dc11 pm11 an11 cd11 ct11), sl11⟩)
    (c11 : PySem.W.codeIn K cd11 "is_shared" = true) (k11 : PySem.W.keepIn K (.ref f11) = true)
    (a12 : PySem.W.nsIn K mainGlobals "own_side" = some (some (.ref f12)))
    (l12 : K.lookup f12 = some ⟨oc12, od12, .func (PySem.W.fnOf "own_side" "own_side" (defArgs a_own_side) (defBody a_own_side) (defScope a_own_side) .none kV12 dc12 pm12 an12 cd12 ct12), sl12⟩)
    (c12 : PySem.W.codeIn K cd12 "own_side" = true) (k12 : PySem.W.keepIn K (.ref f12) = true)
    (a13 : PySem.W.nsIn K mainGlobals "out_span" = some (some (.ref f13)))
    (l13 : K.lookup f13 = some ⟨oc13, od13, .func (PySem.W.fnOf "out_span" "out_span" (defArgs a_out_span) (defBody a_out_span) (defScope a_out_span) .none kV13 dc13 pm13 an13 cd13 ct13), sl13⟩)
    (c13 : PySem.W.codeIn K cd13 "out_span" = true) (k13 : PySem.W.keepIn K (.ref f13) = true)
    (a14 : PySem.W.nsIn K mainGlobals "is_out_at" = some (some (.ref f14)))
    (l14 : K.lookup f14 = some ⟨oc14, od14, .func (PySem.W.fnOf "is_out_at" "is_out_at" (defArgs a_is_out_at) (defBody a_is_out_at) (defScope a_is_out_at) .none kV14 dc14 pm14 an14 cd14 ct14), sl14⟩)
    (c14 : PySem.W.codeIn K cd14 "is_out_at" = true) (k14 : PySem.W.keepIn K (.ref f14) = true)
    (a15 : PySem.W.nsIn K mainGlobals "numbered_rules" = some (some (.ref f15)))
    (l15 : K.lookup f15 = some ⟨oc15, od15, .func (PySem.W.fnOf "numbered_rules" "numbered_rules" (defArgs a_numbered_rules) (defBody a_numbered_rules) (defScope a_numbered_rules) .none kV15 dc15 pm15 an15 cd15 ct15), sl15⟩)
    (c15 : PySem.W.codeIn K cd15 "numbered_rules" = true) (k15 : PySem.W.keepIn K (.ref f15) = true)
    (a16 : PySem.W.nsIn K mainGlobals "standing_of" = some (some (.ref f16)))
    (l16 : K.lookup f16 = some ⟨oc16, od16, .func (PySem.W.fnOf "standing_of" "standing_of" (defArgs a_standing_of) (defBody a_standing_of) (defScope a_standing_of) .none kV16 dc16 pm16 an16 cd16 ct16), sl16⟩)
    (c16 : PySem.W.codeIn K cd16 "standing_of" = true) (k16 : PySem.W.keepIn K (.ref f16) = true)
    (a17 : PySem.W.nsIn K mainGlobals "check_standing" = some (some (.ref f17)))
    (l17 : K.lookup f17 = some ⟨oc17, od17, .func (PySem.W.fnOf "check_standing" "check_standing" (defArgs a_check_standing) (defBody a_check_standing) (defScope a_check_standing) .none kV17 dc17 pm17 an17 cd17 ct17), sl17⟩)
    (c17 : PySem.W.codeIn K cd17 "check_standing" = true) (k17 : PySem.W.keepIn K (.ref f17) = true)
    (a18 : PySem.W.nsIn K mainGlobals "things_of" = some (some (.ref f18)))
    (l18 : K.lookup f18 = some ⟨oc18, od18, .func (PySem.W.fnOf "things_of" "things_of" (defArgs a_things_of) (defBody a_things_of) (defScope a_things_of) .none kV18 dc18 pm18 an18 cd18 ct18), sl18⟩)
    (c18 : PySem.W.codeIn K cd18 "things_of" = true) (k18 : PySem.W.keepIn K (.ref f18) = true)
    (a19 : PySem.W.nsIn K mainGlobals "first_count" = some (some (.ref f19)))
    (l19 : K.lookup f19 = some ⟨oc19, od19, .func (PySem.W.fnOf "first_count" "first_count" (defArgs a_first_count) (defBody a_first_count) (defScope a_first_count) .none kV19 dc19 pm19 an19 cd19 ct19), sl19⟩)
    (c19 : PySem.W.codeIn K cd19 "first_count" = true) (k19 : PySem.W.keepIn K (.ref f19) = true)
    (a20 : PySem.W.nsIn K mainGlobals "add_rule" = some (some (.ref f20)))
    (l20 : K.lookup f20 = some ⟨oc20, od20, .func (PySem.W.fnOf "add_rule" "add_rule" (defArgs a_add_rule) (defBody a_add_rule) (defScope a_add_rule) .none kV20 dc20 pm20 an20 cd20 ct20), sl20⟩)
    (c20 : PySem.W.codeIn K cd20 "add_rule" = true) (k20 : PySem.W.keepIn K (.ref f20) = true)
    (a21 : PySem.W.nsIn K mainGlobals "first_state" = some (some (.ref f21)))
    (l21 : K.lookup f21 = some ⟨oc21, od21, .func (PySem.W.fnOf "first_state" "first_state" (defArgs a_first_state) (defBody a_first_state) (defScope a_first_state) .none kV21 dc21 pm21 an21 cd21 ct21), sl21⟩)
    (c21 : PySem.W.codeIn K cd21 "first_state" = true) (k21 : PySem.W.keepIn K (.ref f21) = true)
    (a22 : PySem.W.nsIn K mainGlobals "shared_counts" = some (some (.ref f22)))
    (l22 : K.lookup f22 = some ⟨oc22, od22, .func (PySem.W.fnOf "shared_counts" "shared_counts" (defArgs a_shared_counts) (defBody a_shared_counts) (defScope a_shared_counts) .none kV22 dc22 pm22 an22 cd22 ct22), sl22⟩)
    (c22 : PySem.W.codeIn K cd22 "shared_counts" = true) (k22 : PySem.W.keepIn K (.ref f22) = true)
    (a23 : PySem.W.nsIn K mainGlobals "leave_holder" = some (some (.ref f23)))
    (l23 : K.lookup f23 = some ⟨oc23, od23, .func (PySem.W.fnOf "leave_holder" "leave_holder" (defArgs a_leave_holder) (defBody a_leave_holder) (defScope a_leave_holder) .none kV23 dc23 pm23 an23 cd23 ct23), sl23⟩)
    (c23 : PySem.W.codeIn K cd23 "leave_holder" = true) (k23 : PySem.W.keepIn K (.ref f23) = true)
    (a24 : PySem.W.nsIn K mainGlobals "_law_pot" = some (some (.ref f24)))
    (l24 : K.lookup f24 = some ⟨oc24, od24, .func (PySem.W.fnOf "_law_pot" "_law_pot" (defArgs sPot) (defBody sPot) (defScope sPot) .none kV24 dc24 pm24 an24 cd24 ct24), sl24⟩)
    (c24 : PySem.W.codeIn K cd24 "_law_pot" = true) (k24 : PySem.W.keepIn K (.ref f24) = true)
    (a25 : PySem.W.nsIn K mainGlobals "_law_take" = some (some (.ref f25)))
    (l25 : K.lookup f25 = some ⟨oc25, od25, .func (PySem.W.fnOf "_law_take" "_law_take" (defArgs sTake) (defBody sTake) (defScope sTake) .none kV25 dc25 pm25 an25 cd25 ct25), sl25⟩)
    (c25 : PySem.W.codeIn K cd25 "_law_take" = true) (k25 : PySem.W.keepIn K (.ref f25) = true)
    (a26 : PySem.W.nsIn K mainGlobals "_law_of" = some (some (.ref f26)))
    (l26 : K.lookup f26 = some ⟨oc26, od26, .func (PySem.W.fnOf "_law_of" "_law_of" (defArgs sOf) (defBody sOf) (defScope sOf) .none kV26 dc26 pm26 an26 cd26 ct26), sl26⟩)
    (c26 : PySem.W.codeIn K cd26 "_law_of" = true) (k26 : PySem.W.keepIn K (.ref f26) = true)
    (a27 : PySem.W.nsIn K mainGlobals "_law_is_in" = some (some (.ref f27)))
    (l27 : K.lookup f27 = some ⟨oc27, od27, .func (PySem.W.fnOf "_law_is_in" "_law_is_in" (defArgs aIn) (defBody aIn) (defScope aIn) .none kV27 dc27 pm27 an27 cd27 ct27), sl27⟩)
    (c27 : PySem.W.codeIn K cd27 "_law_is_in" = true) (k27 : PySem.W.keepIn K (.ref f27) = true)
    (a28 : PySem.W.nsIn K mainGlobals "_law_broken" = some (some (.ref f28)))
    (l28 : K.lookup f28 = some ⟨oc28, od28, .func (PySem.W.fnOf "_law_broken" "_law_broken" (defArgs aBrk) (defBody aBrk) (defScope aBrk) .none kV28 dc28 pm28 an28 cd28 ct28), sl28⟩)
    (c28 : PySem.W.codeIn K cd28 "_law_broken" = true) (k28 : PySem.W.keepIn K (.ref f28) = true)
    (a29 : PySem.W.nsIn K mainGlobals "_law_standing" = some (some (.ref f29)))
    (l29 : K.lookup f29 = some ⟨oc29, od29, .func (PySem.W.fnOf "_law_standing" "_law_standing" (defArgs sStand) (defBody sStand) (defScope sStand) .none kV29 dc29 pm29 an29 cd29 ct29), sl29⟩)
    (c29 : PySem.W.codeIn K cd29 "_law_standing" = true) (k29 : PySem.W.keepIn K (.ref f29) = true)
    (a30 : PySem.W.nsIn K mainGlobals "_law_side_in" = some (some (.ref f30)))
    (l30 : K.lookup f30 = some ⟨oc30, od30, .func (PySem.W.fnOf "_law_side_in" "_law_side_in" (defArgs aSideIn) (defBody aSideIn) (defScope aSideIn) .none kV30 dc30 pm30 an30 cd30 ct30), sl30⟩)
    (c30 : PySem.W.codeIn K cd30 "_law_side_in" = true) (k30 : PySem.W.keepIn K (.ref f30) = true)
    (a31 : PySem.W.nsIn K mainGlobals "_law_rules" = some (some (.ref f31)))
    (l31 : K.lookup f31 = some ⟨oc31, od31, .func (PySem.W.fnOf "_law_rules" "_law_rules" (defArgs aRules) (defBody aRules) (defScope aRules) .none kV31 dc31 pm31 an31 cd31 ct31), sl31⟩)
    (c31 : PySem.W.codeIn K cd31 "_law_rules" = true) (k31 : PySem.W.keepIn K (.ref f31) = true)
    (a32 : PySem.W.nsIn K mainGlobals "_law_tops" = some (some (.ref f32)))
    (l32 : K.lookup f32 = some ⟨oc32, od32, .func (PySem.W.fnOf "_law_tops" "_law_tops" (defArgs aTops) (defBody aTops) (defScope aTops) .none kV32 dc32 pm32 an32 cd32 ct32), sl32⟩)
    (c32 : PySem.W.codeIn K cd32 "_law_tops" = true) (k32 : PySem.W.keepIn K (.ref f32) = true)
    (a33 : PySem.W.nsIn K mainGlobals "_law_case" = some (some (.ref f33)))
    (l33 : K.lookup f33 = some ⟨oc33, od33, .func (PySem.W.fnOf "_law_case" "_law_case" (defArgs a__law_case) (defBody a__law_case) (defScope a__law_case) .none kV33 dc33 pm33 an33 cd33 ct33), sl33⟩)
    (c33 : PySem.W.codeIn K cd33 "_law_case" = true) (k33 : PySem.W.keepIn K (.ref f33) = true)
    (a34 : PySem.W.nsIn K mainGlobals "_law_odd" = some (some (.ref f34)))
    (l34 : K.lookup f34 = some ⟨oc34, od34, .func (PySem.W.fnOf "_law_odd" "_law_odd" (defArgs a__law_odd) (defBody a__law_odd) (defScope a__law_odd) .none kV34 dc34 pm34 an34 cd34 ct34), sl34⟩)
    (c34 : PySem.W.codeIn K cd34 "_law_odd" = true) (k34 : PySem.W.keepIn K (.ref f34) = true)
    (a35 : PySem.W.nsIn K mainGlobals "_law_is_standing" = some (some (.ref f35)))
    (l35 : K.lookup f35 = some ⟨oc35, od35, .func (PySem.W.fnOf "_law_is_standing" "_law_is_standing" (defArgs a__law_is_standing) (defBody a__law_is_standing) (defScope a__law_is_standing) .none kV35 dc35 pm35 an35 cd35 ct35), sl35⟩)
    (c35 : PySem.W.codeIn K cd35 "_law_is_standing" = true) (k35 : PySem.W.keepIn K (.ref f35) = true)
    (a36 : PySem.W.nsIn K mainGlobals "_law_made" = some (some (.ref f36)))
    (l36 : K.lookup f36 = some ⟨oc36, od36, .func (PySem.W.fnOf "_law_made" "_law_made" (defArgs a__law_made) (defBody a__law_made) (defScope a__law_made) .none kV36 dc36 pm36 an36 cd36 ct36), sl36⟩)
    (c36 : PySem.W.codeIn K cd36 "_law_made" = true) (k36 : PySem.W.keepIn K (.ref f36) = true)
    (a37 : PySem.W.nsIn K mainGlobals "_law_first_right" = some (some (.ref f37)))
    (l37 : K.lookup f37 = some ⟨oc37, od37, .func (PySem.W.fnOf "_law_first_right" "_law_first_right" (defArgs a__law_first_right) (defBody a__law_first_right) (defScope a__law_first_right) .none kV37 dc37 pm37 an37 cd37 ct37), sl37⟩)
    (c37 : PySem.W.codeIn K cd37 "_law_first_right" = true) (k37 : PySem.W.keepIn K (.ref f37) = true)
    (a38 : PySem.W.nsIn K mainGlobals "_law_is_wrong" = some (some (.ref f38)))
    (l38 : K.lookup f38 = some ⟨oc38, od38, .func (PySem.W.fnOf "_law_is_wrong" "_law_is_wrong" (defArgs a__law_is_wrong) (defBody a__law_is_wrong) (defScope a__law_is_wrong) .none kV38 dc38 pm38 an38 cd38 ct38), sl38⟩)
    (c38 : PySem.W.codeIn K cd38 "_law_is_wrong" = true) (k38 : PySem.W.keepIn K (.ref f38) = true)
    (a39 : PySem.W.nsIn K mainGlobals "law" = some (some (.ref f39)))
    (l39 : K.lookup f39 = some ⟨oc39, od39, .func (PySem.W.fnOf "law" "law" (defArgs a_law) (defBody a_law) (defScope a_law) .none kV39 dc39 pm39 an39 cd39 ct39), sl39⟩)
    (c39 : PySem.W.codeIn K cd39 "law" = true) (k39 : PySem.W.keepIn K (.ref f39) = true)
    (aC : PySem.W.nsIn K mainGlobals "Plan" = some (some (.ref C))) (aI : PySem.W.findIn K (.ref C) "__init__" = some (some (.ref f0))) (iI : PySem.W.isFn K (.ref f0) = true)
    (lI : K.lookup f0 = some ⟨oc0, od0, .func (PySem.W.fnOf "__init__" "Plan.__init__" (defArgs kInit) (defBody kInit) (defScope kInit) (.ref Td) kV0 dc0 pm0 an0 cd0 ct0), sl0⟩) (cI : PySem.W.codeIn K cd0 "Plan.__init__" = true) (kI : PySem.W.keepIn K (.ref f0) = true)
    (lT : K.lookup Td = some ⟨ocT, odT, .seq #[.ref e0] nT, slT⟩)
    (pg : PySem.W.plainGet K C Str.empty = true) (hd : PySem.W.hasDictIn K C = true) (po : PySem.W.plainOver K C = true) (sa : PySem.W.findIn K (.ref C) "__setattr__" = some (some (.builtin "object.__setattr__"))) (mk : PySem.W.makesIn K C = true) (kc : PySem.W.keepIn K (.ref C) = true)
    (nTo : PySem.W.findIn K (.ref C) "tops" = some none) (nRu : PySem.W.findIn K (.ref C) "rules" = some none)
    (v1 : PySem.W.nsIn K mainGlobals "MOST_THINGS" = some (some (.int 12 tk1))) (v2 : PySem.W.nsIn K mainGlobals "MOST_RULES" = some (some (.int 40 tk2))) (v3 : PySem.W.nsIn K mainGlobals "BEYOND_THIRTY_FIGURES" = some (some (.int 1000000000000000000000000000000 tk3)))
    (v4 : PySem.W.nsIn K mainGlobals "WORDS" = some (some (.ref wa))) (v5 : K.lookup wa = some ⟨.type "tuple", odW, .seq #[.str "from" tk4, .str "to" tk5] nW, slW⟩)
    {C_NoPlan f_NoPlan N_NoPlan : Addr} {nm_NoPlan q_NoPlan : Str} {bs_NoPlan bm_NoPlan sub_NoPlan : List Value} {sn_NoPlan : List Str} {ab_NoPlan : Bool} {col_NoPlan : Option Bool} {dd_NoPlan od_NoPlan an_NoPlan : Option Addr} {m0_NoPlan m1_NoPlan m2_NoPlan m3_NoPlan m5_NoPlan : Option Value} {sl_NoPlan : Array (Option Value)} {oc_NoPlan kV_NoPlan dc_NoPlan pm_NoPlan cd_NoPlan ct_NoPlan : Value}
    (a_NoPlan : PySem.W.nsIn K mainGlobals "NoPlan" = some (some (.ref C_NoPlan)))
    (x_NoPlan : K.lookup C_NoPlan = some (excClassObj nm_NoPlan q_NoPlan C_NoPlan N_NoPlan bs_NoPlan bm_NoPlan true sn_NoPlan sub_NoPlan ab_NoPlan col_NoPlan dd_NoPlan m0_NoPlan m1_NoPlan m2_NoPlan m3_NoPlan m5_NoPlan "ValueError.__new__"))
    (r_NoPlan : PySem.HandSPX.refsVE bm_NoPlan = true)
    (sa_NoPlan : PySem.W.findIn K (.ref C_NoPlan) "__setattr__" = some (some (.builtin "object.__setattr__"))) (ga_NoPlan : PySem.W.findIn K (.ref C_NoPlan) "__getattribute__" = some (some (.builtin "BaseException.__getattribute__"))) (gg_NoPlan : PySem.W.findIn K (.ref C_NoPlan) "__getattr__" = some none) (nb_NoPlan : PySem.W.findIn K (.ref C_NoPlan) "field" = some none)
    (i_NoPlan : PySem.W.findIn K (.ref C_NoPlan) "__init__" = some (some (.ref f_NoPlan))) (t_NoPlan : PySem.W.typeIn K (.ref f_NoPlan) = some (.type "function"))
    (l_NoPlan : K.lookup f_NoPlan = some ⟨oc_NoPlan, od_NoPlan, .func (PySem.W.fnOf "__init__" "NoPlan.__init__" (defArgs kI_NoPlan) (defBody kI_NoPlan) (defScope kI_NoPlan) .none kV_NoPlan dc_NoPlan pm_NoPlan an_NoPlan cd_NoPlan ct_NoPlan), sl_NoPlan⟩) (c_NoPlan : PySem.W.codeIn K cd_NoPlan "NoPlan.__init__" = true) (kf_NoPlan : PySem.W.keepIn K (.ref f_NoPlan) = true)
    (kC_NoPlan : PySem.W.keepIn K (.ref C_NoPlan) = true) (e_NoPlan : PySem.W.subIn K (.ref C_NoPlan) (.type "BaseException") = some true) (ty_NoPlan : PySem.W.typeIn K (.ref C_NoPlan) = some (.type "type")) (hd_NoPlan : PySem.W.hasDictIn K C_NoPlan = true) (is_NoPlan : PySem.W.isClsIn K C_NoPlan = true) (ss_NoPlan : PySem.W.subIn K (.ref C_NoPlan) (.ref C_NoPlan) = some true)
    {C_NoStanding f_NoStanding N_NoStanding : Addr} {nm_NoStanding q_NoStanding : Str} {bs_NoStanding bm_NoStanding sub_NoStanding : List Value} {sn_NoStanding : List Str} {ab_NoStanding : Bool} {col_NoStanding : Option Bool} {dd_NoStanding od_NoStanding an_NoStanding : Option Addr} {m0_NoStanding m1_NoStanding m2_NoStanding m3_NoStanding m5_NoStanding : Option Value} {sl_NoStanding : Array (Option Value)} {oc_NoStanding kV_NoStanding dc_NoStanding pm_NoStanding cd_NoStanding ct_NoStanding : Value}
    (a_NoStanding : PySem.W.nsIn K mainGlobals "NoStanding" = some (some (.ref C_NoStanding)))
    (x_NoStanding : K.lookup C_NoStanding = some (excClassObj nm_NoStanding q_NoStanding C_NoStanding N_NoStanding bs_NoStanding bm_NoStanding true sn_NoStanding sub_NoStanding ab_NoStanding col_NoStanding dd_NoStanding m0_NoStanding m1_NoStanding m2_NoStanding m3_NoStanding m5_NoStanding "ValueError.__new__"))
    (r_NoStanding : PySem.HandSPX.refsVE bm_NoStanding = true)
    (sa_NoStanding : PySem.W.findIn K (.ref C_NoStanding) "__setattr__" = some (some (.builtin "object.__setattr__"))) (ga_NoStanding : PySem.W.findIn K (.ref C_NoStanding) "__getattribute__" = some (some (.builtin "BaseException.__getattribute__"))) (gg_NoStanding : PySem.W.findIn K (.ref C_NoStanding) "__getattr__" = some none) (nb_NoStanding : PySem.W.findIn K (.ref C_NoStanding) "thing" = some none)
    (i_NoStanding : PySem.W.findIn K (.ref C_NoStanding) "__init__" = some (some (.ref f_NoStanding))) (t_NoStanding : PySem.W.typeIn K (.ref f_NoStanding) = some (.type "function"))
    (l_NoStanding : K.lookup f_NoStanding = some ⟨oc_NoStanding, od_NoStanding, .func (PySem.W.fnOf "__init__" "NoStanding.__init__" (defArgs kI_NoStanding) (defBody kI_NoStanding) (defScope kI_NoStanding) .none kV_NoStanding dc_NoStanding pm_NoStanding an_NoStanding cd_NoStanding ct_NoStanding), sl_NoStanding⟩) (c_NoStanding : PySem.W.codeIn K cd_NoStanding "NoStanding.__init__" = true) (kf_NoStanding : PySem.W.keepIn K (.ref f_NoStanding) = true)
    (kC_NoStanding : PySem.W.keepIn K (.ref C_NoStanding) = true) (e_NoStanding : PySem.W.subIn K (.ref C_NoStanding) (.type "BaseException") = some true) (ty_NoStanding : PySem.W.typeIn K (.ref C_NoStanding) = some (.type "type")) (hd_NoStanding : PySem.W.hasDictIn K C_NoStanding = true) (is_NoStanding : PySem.W.isClsIn K C_NoStanding = true) (ss_NoStanding : PySem.W.subIn K (.ref C_NoStanding) (.ref C_NoStanding) = some true)
    {C_Broken f_Broken N_Broken : Addr} {nm_Broken q_Broken : Str} {bs_Broken bm_Broken sub_Broken : List Value} {sn_Broken : List Str} {ab_Broken : Bool} {col_Broken : Option Bool} {dd_Broken od_Broken an_Broken : Option Addr} {m0_Broken m1_Broken m2_Broken m3_Broken m5_Broken : Option Value} {sl_Broken : Array (Option Value)} {oc_Broken kV_Broken dc_Broken pm_Broken cd_Broken ct_Broken : Value}
    (a_Broken : PySem.W.nsIn K mainGlobals "Broken" = some (some (.ref C_Broken)))
    (x_Broken : K.lookup C_Broken = some (excClassObj nm_Broken q_Broken C_Broken N_Broken bs_Broken bm_Broken true sn_Broken sub_Broken ab_Broken col_Broken dd_Broken m0_Broken m1_Broken m2_Broken m3_Broken m5_Broken "ValueError.__new__"))
    (r_Broken : PySem.HandSPX.refsVE bm_Broken = true)
    (sa_Broken : PySem.W.findIn K (.ref C_Broken) "__setattr__" = some (some (.builtin "object.__setattr__"))) (ga_Broken : PySem.W.findIn K (.ref C_Broken) "__getattribute__" = some (some (.builtin "BaseException.__getattribute__"))) (gg_Broken : PySem.W.findIn K (.ref C_Broken) "__getattr__" = some none) (nb_Broken : PySem.W.findIn K (.ref C_Broken) "rules" = some none)
    (i_Broken : PySem.W.findIn K (.ref C_Broken) "__init__" = some (some (.ref f_Broken))) (t_Broken : PySem.W.typeIn K (.ref f_Broken) = some (.type "function"))
    (l_Broken : K.lookup f_Broken = some ⟨oc_Broken, od_Broken, .func (PySem.W.fnOf "__init__" "Broken.__init__" (defArgs kI_Broken) (defBody kI_Broken) (defScope kI_Broken) .none kV_Broken dc_Broken pm_Broken an_Broken cd_Broken ct_Broken), sl_Broken⟩) (c_Broken : PySem.W.codeIn K cd_Broken "Broken.__init__" = true) (kf_Broken : PySem.W.keepIn K (.ref f_Broken) = true)
    (kC_Broken : PySem.W.keepIn K (.ref C_Broken) = true) (e_Broken : PySem.W.subIn K (.ref C_Broken) (.type "BaseException") = some true) (ty_Broken : PySem.W.typeIn K (.ref C_Broken) = some (.type "type")) (hd_Broken : PySem.W.hasDictIn K C_Broken = true) (is_Broken : PySem.W.isClsIn K C_Broken = true) (ss_Broken : PySem.W.subIn K (.ref C_Broken) (.ref C_Broken) = some true)
    (xo_NoStanding_NoPlan : PySem.W.subIn K (.ref C_NoStanding) (.ref C_NoPlan) = some false)
    (xo_Broken_NoPlan : PySem.W.subIn K (.ref C_Broken) (.ref C_NoPlan) = some false)
    (xo_Broken_NoStanding : PySem.W.subIn K (.ref C_Broken) (.ref C_NoStanding) = some false)
    (ic1 : PySem.W.findIn K (.ref C) "__class__" = some (some (.builtin "object.__class__"))) (ic2 : PySem.W.specialIn K (.builtin "object.__class__") "__get__" = some (some (.builtin "getset_descriptor.__get__"))) (ic3 : PySem.W.takesIn K (.builtin "object.__class__") = some true) (ic4 : PySem.W.mroIn K C (.type "object") = some true)
    (ic5 : PySem.W.typeIn K (.ref C) = some (.type "type"))
    {C_Hand : Addr} (aC_Hand : PySem.W.nsIn K mainGlobals "Hand" = some (some (.ref C_Hand))) (pg_Hand : PySem.W.plainGet K C_Hand Str.empty = true) (hd_Hand : PySem.W.hasDictIn K C_Hand = true) (po_Hand : PySem.W.plainOver K C_Hand = true) (sa_Hand : PySem.W.findIn K (.ref C_Hand) "__setattr__" = some (some (.builtin "object.__setattr__"))) (mk_Hand : PySem.W.makesIn K C_Hand = true) (kc_Hand : PySem.W.keepIn K (.ref C_Hand) = true)
    (n_Hand_thing : PySem.W.findIn K (.ref C_Hand) "thing" = some none)
    (n_Hand_place : PySem.W.findIn K (.ref C_Hand) "place" = some none)
    (n_Hand_wish : PySem.W.findIn K (.ref C_Hand) "wish" = some none)
    (n_Hand_held : PySem.W.findIn K (.ref C_Hand) "held" = some none)
    (n_Hand_tally : PySem.W.findIn K (.ref C_Hand) "tally" = some none)
    {f_Hand___init__ : Addr} {od_Hand___init__ an_Hand___init__ : Option Addr} {sl_Hand___init__ : Array (Option Value)} {oc_Hand___init__ kV_Hand___init__ dc_Hand___init__ pm_Hand___init__ cd_Hand___init__ ct_Hand___init__ : Value}
    (a_Hand___init___ : PySem.W.findIn K (.ref C_Hand) "__init__" = some (some (.ref f_Hand___init__))) (i_Hand___init__ : PySem.W.isFn K (.ref f_Hand___init__) = true)
    (l_Hand___init__ : K.lookup f_Hand___init__ = some ⟨oc_Hand___init__, od_Hand___init__, .func (PySem.W.fnOf "__init__" "Hand.__init__" (defArgs a_Hand___init__) (defBody a_Hand___init__) (defScope a_Hand___init__) .none kV_Hand___init__ dc_Hand___init__ pm_Hand___init__ an_Hand___init__ cd_Hand___init__ ct_Hand___init__), sl_Hand___init__⟩) (c_Hand___init__ : PySem.W.codeIn K cd_Hand___init__ "Hand.__init__" = true) (k_Hand___init__ : PySem.W.keepIn K (.ref f_Hand___init__) = true)
    {f_Hand_shares : Addr} {od_Hand_shares an_Hand_shares : Option Addr} {sl_Hand_shares : Array (Option Value)} {oc_Hand_shares kV_Hand_shares dc_Hand_shares pm_Hand_shares cd_Hand_shares ct_Hand_shares : Value}
    (a_Hand_shares_ : PySem.W.findIn K (.ref C_Hand) "shares" = some (some (.ref f_Hand_shares))) (i_Hand_shares : PySem.W.isFn K (.ref f_Hand_shares) = true)
    (l_Hand_shares : K.lookup f_Hand_shares = some ⟨oc_Hand_shares, od_Hand_shares, .func (PySem.W.fnOf "shares" "Hand.shares" (defArgs a_Hand_shares) (defBody a_Hand_shares) (defScope a_Hand_shares) .none kV_Hand_shares dc_Hand_shares pm_Hand_shares an_Hand_shares cd_Hand_shares ct_Hand_shares), sl_Hand_shares⟩) (c_Hand_shares : PySem.W.codeIn K cd_Hand_shares "Hand.shares" = true) (k_Hand_shares : PySem.W.keepIn K (.ref f_Hand_shares) = true)
    {f_Hand_shared : Addr} {od_Hand_shared an_Hand_shared : Option Addr} {sl_Hand_shared : Array (Option Value)} {oc_Hand_shared kV_Hand_shared dc_Hand_shared pm_Hand_shared cd_Hand_shared ct_Hand_shared : Value}
    (a_Hand_shared_ : PySem.W.findIn K (.ref C_Hand) "shared" = some (some (.ref f_Hand_shared))) (i_Hand_shared : PySem.W.isFn K (.ref f_Hand_shared) = true)
    (l_Hand_shared : K.lookup f_Hand_shared = some ⟨oc_Hand_shared, od_Hand_shared, .func (PySem.W.fnOf "shared" "Hand.shared" (defArgs a_Hand_shared) (defBody a_Hand_shared) (defScope a_Hand_shared) .none kV_Hand_shared dc_Hand_shared pm_Hand_shared an_Hand_shared cd_Hand_shared ct_Hand_shared), sl_Hand_shared⟩) (c_Hand_shared : PySem.W.codeIn K cd_Hand_shared "Hand.shared" = true) (k_Hand_shared : PySem.W.keepIn K (.ref f_Hand_shared) = true)
    {f_Hand_count_of : Addr} {od_Hand_count_of an_Hand_count_of : Option Addr} {sl_Hand_count_of : Array (Option Value)} {oc_Hand_count_of kV_Hand_count_of dc_Hand_count_of pm_Hand_count_of cd_Hand_count_of ct_Hand_count_of : Value}
    (a_Hand_count_of_ : PySem.W.findIn K (.ref C_Hand) "count_of" = some (some (.ref f_Hand_count_of))) (i_Hand_count_of : PySem.W.isFn K (.ref f_Hand_count_of) = true)
    (l_Hand_count_of : K.lookup f_Hand_count_of = some ⟨oc_Hand_count_of, od_Hand_count_of, .func (PySem.W.fnOf "count_of" "Hand.count_of" (defArgs a_Hand_count_of) (defBody a_Hand_count_of) (defScope a_Hand_count_of) .none kV_Hand_count_of dc_Hand_count_of pm_Hand_count_of an_Hand_count_of cd_Hand_count_of ct_Hand_count_of), sl_Hand_count_of⟩) (c_Hand_count_of : PySem.W.codeIn K cd_Hand_count_of "Hand.count_of" = true) (k_Hand_count_of : PySem.W.keepIn K (.ref f_Hand_count_of) = true)
    {f_Hand_has_leave : Addr} {od_Hand_has_leave an_Hand_has_leave : Option Addr} {sl_Hand_has_leave : Array (Option Value)} {oc_Hand_has_leave kV_Hand_has_leave dc_Hand_has_leave pm_Hand_has_leave cd_Hand_has_leave ct_Hand_has_leave : Value}
    (a_Hand_has_leave_ : PySem.W.findIn K (.ref C_Hand) "has_leave" = some (some (.ref f_Hand_has_leave))) (i_Hand_has_leave : PySem.W.isFn K (.ref f_Hand_has_leave) = true)
    (l_Hand_has_leave : K.lookup f_Hand_has_leave = some ⟨oc_Hand_has_leave, od_Hand_has_leave, .func (PySem.W.fnOf "has_leave" "Hand.has_leave" (defArgs a_Hand_has_leave) (defBody a_Hand_has_leave) (defScope a_Hand_has_leave) .none kV_Hand_has_leave dc_Hand_has_leave pm_Hand_has_leave an_Hand_has_leave cd_Hand_has_leave ct_Hand_has_leave), sl_Hand_has_leave⟩) (c_Hand_has_leave : PySem.W.codeIn K cd_Hand_has_leave "Hand.has_leave" = true) (k_Hand_has_leave : PySem.W.keepIn K (.ref f_Hand_has_leave) = true)
    {f_Hand_wished_place : Addr} {od_Hand_wished_place an_Hand_wished_place : Option Addr} {sl_Hand_wished_place : Array (Option Value)} {oc_Hand_wished_place kV_Hand_wished_place dc_Hand_wished_place pm_Hand_wished_place cd_Hand_wished_place ct_Hand_wished_place : Value}
    (a_Hand_wished_place_ : PySem.W.findIn K (.ref C_Hand) "wished_place" = some (some (.ref f_Hand_wished_place))) (i_Hand_wished_place : PySem.W.isFn K (.ref f_Hand_wished_place) = true)
    (l_Hand_wished_place : K.lookup f_Hand_wished_place = some ⟨oc_Hand_wished_place, od_Hand_wished_place, .func (PySem.W.fnOf "wished_place" "Hand.wished_place" (defArgs a_Hand_wished_place) (defBody a_Hand_wished_place) (defScope a_Hand_wished_place) .none kV_Hand_wished_place dc_Hand_wished_place pm_Hand_wished_place an_Hand_wished_place cd_Hand_wished_place ct_Hand_wished_place), sl_Hand_wished_place⟩) (c_Hand_wished_place : PySem.W.codeIn K cd_Hand_wished_place "Hand.wished_place" = true) (k_Hand_wished_place : PySem.W.keepIn K (.ref f_Hand_wished_place) = true)
    {f_Hand_lacks : Addr} {od_Hand_lacks an_Hand_lacks : Option Addr} {sl_Hand_lacks : Array (Option Value)} {oc_Hand_lacks kV_Hand_lacks dc_Hand_lacks pm_Hand_lacks cd_Hand_lacks ct_Hand_lacks : Value}
    (a_Hand_lacks_ : PySem.W.findIn K (.ref C_Hand) "lacks" = some (some (.ref f_Hand_lacks))) (i_Hand_lacks : PySem.W.isFn K (.ref f_Hand_lacks) = true)
    (l_Hand_lacks : K.lookup f_Hand_lacks = some ⟨oc_Hand_lacks, od_Hand_lacks, .func (PySem.W.fnOf "lacks" "Hand.lacks" (defArgs a_Hand_lacks) (defBody a_Hand_lacks) (defScope a_Hand_lacks) .none kV_Hand_lacks dc_Hand_lacks pm_Hand_lacks an_Hand_lacks cd_Hand_lacks ct_Hand_lacks), sl_Hand_lacks⟩) (c_Hand_lacks : PySem.W.codeIn K cd_Hand_lacks "Hand.lacks" = true) (k_Hand_lacks : PySem.W.keepIn K (.ref f_Hand_lacks) = true)
    {f_Hand_put : Addr} {od_Hand_put an_Hand_put : Option Addr} {sl_Hand_put : Array (Option Value)} {oc_Hand_put kV_Hand_put dc_Hand_put pm_Hand_put cd_Hand_put ct_Hand_put : Value}
    (a_Hand_put_ : PySem.W.findIn K (.ref C_Hand) "put" = some (some (.ref f_Hand_put))) (i_Hand_put : PySem.W.isFn K (.ref f_Hand_put) = true)
    (l_Hand_put : K.lookup f_Hand_put = some ⟨oc_Hand_put, od_Hand_put, .func (PySem.W.fnOf "put" "Hand.put" (defArgs a_Hand_put) (defBody a_Hand_put) (defScope a_Hand_put) .none kV_Hand_put dc_Hand_put pm_Hand_put an_Hand_put cd_Hand_put ct_Hand_put), sl_Hand_put⟩) (c_Hand_put : PySem.W.codeIn K cd_Hand_put "Hand.put" = true) (k_Hand_put : PySem.W.keepIn K (.ref f_Hand_put) = true)
    {C_State : Addr} (aC_State : PySem.W.nsIn K mainGlobals "State" = some (some (.ref C_State))) (pg_State : PySem.W.plainGet K C_State Str.empty = true) (hd_State : PySem.W.hasDictIn K C_State = true) (po_State : PySem.W.plainOver K C_State = true) (sa_State : PySem.W.findIn K (.ref C_State) "__setattr__" = some (some (.builtin "object.__setattr__"))) (mk_State : PySem.W.makesIn K C_State = true) (kc_State : PySem.W.keepIn K (.ref C_State) = true)
    (n_State_tops : PySem.W.findIn K (.ref C_State) "tops" = some none)
    (n_State_rules : PySem.W.findIn K (.ref C_State) "rules" = some none)
    (n_State_hands : PySem.W.findIn K (.ref C_State) "hands" = some none)
    (n_State_letters : PySem.W.findIn K (.ref C_State) "letters" = some none)
    (n_State_next_mark : PySem.W.findIn K (.ref C_State) "next_mark" = some none)
    (n_State_next_rule : PySem.W.findIn K (.ref C_State) "next_rule" = some none)
    (n_State_last_wish : PySem.W.findIn K (.ref C_State) "last_wish" = some none)
    (n_State_all_gone : PySem.W.findIn K (.ref C_State) "all_gone" = some none)
    {f_State___init__ : Addr} {od_State___init__ an_State___init__ : Option Addr} {sl_State___init__ : Array (Option Value)} {oc_State___init__ kV_State___init__ dc_State___init__ pm_State___init__ cd_State___init__ ct_State___init__ : Value}
    (a_State___init___ : PySem.W.findIn K (.ref C_State) "__init__" = some (some (.ref f_State___init__))) (i_State___init__ : PySem.W.isFn K (.ref f_State___init__) = true)
    (l_State___init__ : K.lookup f_State___init__ = some ⟨oc_State___init__, od_State___init__, .func (PySem.W.fnOf "__init__" "State.__init__" (defArgs a_State___init__) (defBody a_State___init__) (defScope a_State___init__) .none kV_State___init__ dc_State___init__ pm_State___init__ an_State___init__ cd_State___init__ ct_State___init__), sl_State___init__⟩) (c_State___init__ : PySem.W.codeIn K cd_State___init__ "State.__init__" = true) (k_State___init__ : PySem.W.keepIn K (.ref f_State___init__) = true)
    {C_Hall : Addr} (aC_Hall : PySem.W.nsIn K mainGlobals "Hall" = some (some (.ref C_Hall))) (pg_Hall : PySem.W.plainGet K C_Hall Str.empty = true) (hd_Hall : PySem.W.hasDictIn K C_Hall = true) (po_Hall : PySem.W.plainOver K C_Hall = true) (sa_Hall : PySem.W.findIn K (.ref C_Hall) "__setattr__" = some (some (.builtin "object.__setattr__"))) (mk_Hall : PySem.W.makesIn K C_Hall = true) (kc_Hall : PySem.W.keepIn K (.ref C_Hall) = true)
    (n_Hall_now : PySem.W.findIn K (.ref C_Hall) "now" = some none)
    (n_Hall_past : PySem.W.findIn K (.ref C_Hall) "past" = some none)
    {f_Hall___init__ : Addr} {od_Hall___init__ an_Hall___init__ : Option Addr} {sl_Hall___init__ : Array (Option Value)} {oc_Hall___init__ kV_Hall___init__ dc_Hall___init__ pm_Hall___init__ cd_Hall___init__ ct_Hall___init__ : Value}
    (a_Hall___init___ : PySem.W.findIn K (.ref C_Hall) "__init__" = some (some (.ref f_Hall___init__))) (i_Hall___init__ : PySem.W.isFn K (.ref f_Hall___init__) = true)
    (l_Hall___init__ : K.lookup f_Hall___init__ = some ⟨oc_Hall___init__, od_Hall___init__, .func (PySem.W.fnOf "__init__" "Hall.__init__" (defArgs a_Hall___init__) (defBody a_Hall___init__) (defScope a_Hall___init__) .none kV_Hall___init__ dc_Hall___init__ pm_Hall___init__ an_Hall___init__ cd_Hall___init__ ct_Hall___init__), sl_Hall___init__⟩) (c_Hall___init__ : PySem.W.codeIn K cd_Hall___init__ "Hall.__init__" = true) (k_Hall___init__ : PySem.W.keepIn K (.ref f_Hall___init__) = true)
    {f_Hall___len__ : Addr} {od_Hall___len__ an_Hall___len__ : Option Addr} {sl_Hall___len__ : Array (Option Value)} {oc_Hall___len__ kV_Hall___len__ dc_Hall___len__ pm_Hall___len__ cd_Hall___len__ ct_Hall___len__ : Value}
    (a_Hall___len___ : PySem.W.findIn K (.ref C_Hall) "__len__" = some (some (.ref f_Hall___len__))) (i_Hall___len__ : PySem.W.isFn K (.ref f_Hall___len__) = true)
    (l_Hall___len__ : K.lookup f_Hall___len__ = some ⟨oc_Hall___len__, od_Hall___len__, .func (PySem.W.fnOf "__len__" "Hall.__len__" (defArgs a_Hall___len__) (defBody a_Hall___len__) (defScope a_Hall___len__) .none kV_Hall___len__ dc_Hall___len__ pm_Hall___len__ an_Hall___len__ cd_Hall___len__ ct_Hall___len__), sl_Hall___len__⟩) (c_Hall___len__ : PySem.W.codeIn K cd_Hall___len__ "Hall.__len__" = true) (k_Hall___len__ : PySem.W.keepIn K (.ref f_Hall___len__) = true)
    {f_Hall_numbered : Addr} {od_Hall_numbered an_Hall_numbered : Option Addr} {sl_Hall_numbered : Array (Option Value)} {oc_Hall_numbered kV_Hall_numbered dc_Hall_numbered pm_Hall_numbered cd_Hall_numbered ct_Hall_numbered : Value}
    (a_Hall_numbered_ : PySem.W.findIn K (.ref C_Hall) "numbered" = some (some (.ref f_Hall_numbered))) (i_Hall_numbered : PySem.W.isFn K (.ref f_Hall_numbered) = true)
    (l_Hall_numbered : K.lookup f_Hall_numbered = some ⟨oc_Hall_numbered, od_Hall_numbered, .func (PySem.W.fnOf "numbered" "Hall.numbered" (defArgs a_Hall_numbered) (defBody a_Hall_numbered) (defScope a_Hall_numbered) .none kV_Hall_numbered dc_Hall_numbered pm_Hall_numbered an_Hall_numbered cd_Hall_numbered ct_Hall_numbered), sl_Hall_numbered⟩) (c_Hall_numbered : PySem.W.codeIn K cd_Hall_numbered "Hall.numbered" = true) (k_Hall_numbered : PySem.W.keepIn K (.ref f_Hall_numbered) = true)
    {f_Hall_standing : Addr} {od_Hall_standing an_Hall_standing : Option Addr} {sl_Hall_standing : Array (Option Value)} {oc_Hall_standing kV_Hall_standing dc_Hall_standing pm_Hall_standing cd_Hall_standing ct_Hall_standing : Value}
    (a_Hall_standing_ : PySem.W.findIn K (.ref C_Hall) "standing" = some (some (.ref f_Hall_standing))) (i_Hall_standing : PySem.W.isFn K (.ref f_Hall_standing) = true)
    (l_Hall_standing : K.lookup f_Hall_standing = some ⟨oc_Hall_standing, od_Hall_standing, .func (PySem.W.fnOf "standing" "Hall.standing" (defArgs a_Hall_standing) (defBody a_Hall_standing) (defScope a_Hall_standing) .none kV_Hall_standing dc_Hall_standing pm_Hall_standing an_Hall_standing cd_Hall_standing ct_Hall_standing), sl_Hall_standing⟩) (c_Hall_standing : PySem.W.codeIn K cd_Hall_standing "Hall.standing" = true) (k_Hall_standing : PySem.W.keepIn K (.ref f_Hall_standing) = true)
    {f_Hall_heard : Addr} {od_Hall_heard an_Hall_heard : Option Addr} {sl_Hall_heard : Array (Option Value)} {oc_Hall_heard kV_Hall_heard dc_Hall_heard pm_Hall_heard cd_Hall_heard ct_Hall_heard : Value}
    (a_Hall_heard_ : PySem.W.findIn K (.ref C_Hall) "heard" = some (some (.ref f_Hall_heard))) (i_Hall_heard : PySem.W.isFn K (.ref f_Hall_heard) = true)
    (l_Hall_heard : K.lookup f_Hall_heard = some ⟨oc_Hall_heard, od_Hall_heard, .func (PySem.W.fnOf "heard" "Hall.heard" (defArgs a_Hall_heard) (defBody a_Hall_heard) (defScope a_Hall_heard) .none kV_Hall_heard dc_Hall_heard pm_Hall_heard an_Hall_heard cd_Hall_heard ct_Hall_heard), sl_Hall_heard⟩) (c_Hall_heard : PySem.W.codeIn K cd_Hall_heard "Hall.heard" = true) (k_Hall_heard : PySem.W.keepIn K (.ref f_Hall_heard) = true)
    {f_Hall_leaves : Addr} {od_Hall_leaves an_Hall_leaves : Option Addr} {sl_Hall_leaves : Array (Option Value)} {oc_Hall_leaves kV_Hall_leaves dc_Hall_leaves pm_Hall_leaves cd_Hall_leaves ct_Hall_leaves : Value}
    (a_Hall_leaves_ : PySem.W.findIn K (.ref C_Hall) "leaves" = some (some (.ref f_Hall_leaves))) (i_Hall_leaves : PySem.W.isFn K (.ref f_Hall_leaves) = true)
    (l_Hall_leaves : K.lookup f_Hall_leaves = some ⟨oc_Hall_leaves, od_Hall_leaves, .func (PySem.W.fnOf "leaves" "Hall.leaves" (defArgs a_Hall_leaves) (defBody a_Hall_leaves) (defScope a_Hall_leaves) .none kV_Hall_leaves dc_Hall_leaves pm_Hall_leaves an_Hall_leaves cd_Hall_leaves ct_Hall_leaves), sl_Hall_leaves⟩) (c_Hall_leaves : PySem.W.codeIn K cd_Hall_leaves "Hall.leaves" = true) (k_Hall_leaves : PySem.W.keepIn K (.ref f_Hall_leaves) = true)
    {f_Hall_counts : Addr} {od_Hall_counts an_Hall_counts : Option Addr} {sl_Hall_counts : Array (Option Value)} {oc_Hall_counts kV_Hall_counts dc_Hall_counts pm_Hall_counts cd_Hall_counts ct_Hall_counts : Value}
    (a_Hall_counts_ : PySem.W.findIn K (.ref C_Hall) "counts" = some (some (.ref f_Hall_counts))) (i_Hall_counts : PySem.W.isFn K (.ref f_Hall_counts) = true)
    (l_Hall_counts : K.lookup f_Hall_counts = some ⟨oc_Hall_counts, od_Hall_counts, .func (PySem.W.fnOf "counts" "Hall.counts" (defArgs a_Hall_counts) (defBody a_Hall_counts) (defScope a_Hall_counts) .none kV_Hall_counts dc_Hall_counts pm_Hall_counts an_Hall_counts cd_Hall_counts ct_Hall_counts), sl_Hall_counts⟩) (c_Hall_counts : PySem.W.codeIn K cd_Hall_counts "Hall.counts" = true) (k_Hall_counts : PySem.W.keepIn K (.ref f_Hall_counts) = true)
    {f_Hall_under_way : Addr} {od_Hall_under_way an_Hall_under_way : Option Addr} {sl_Hall_under_way : Array (Option Value)} {oc_Hall_under_way kV_Hall_under_way dc_Hall_under_way pm_Hall_under_way cd_Hall_under_way ct_Hall_under_way : Value}
    (a_Hall_under_way_ : PySem.W.findIn K (.ref C_Hall) "under_way" = some (some (.ref f_Hall_under_way))) (i_Hall_under_way : PySem.W.isFn K (.ref f_Hall_under_way) = true)
    (l_Hall_under_way : K.lookup f_Hall_under_way = some ⟨oc_Hall_under_way, od_Hall_under_way, .func (PySem.W.fnOf "under_way" "Hall.under_way" (defArgs a_Hall_under_way) (defBody a_Hall_under_way) (defScope a_Hall_under_way) .none kV_Hall_under_way dc_Hall_under_way pm_Hall_under_way an_Hall_under_way cd_Hall_under_way ct_Hall_under_way), sl_Hall_under_way⟩) (c_Hall_under_way : PySem.W.codeIn K cd_Hall_under_way "Hall.under_way" = true) (k_Hall_under_way : PySem.W.keepIn K (.ref f_Hall_under_way) = true)
    {f_Hall_waiting : Addr} {od_Hall_waiting an_Hall_waiting : Option Addr} {sl_Hall_waiting : Array (Option Value)} {oc_Hall_waiting kV_Hall_waiting dc_Hall_waiting pm_Hall_waiting cd_Hall_waiting ct_Hall_waiting : Value}
    (a_Hall_waiting_ : PySem.W.findIn K (.ref C_Hall) "waiting" = some (some (.ref f_Hall_waiting))) (i_Hall_waiting : PySem.W.isFn K (.ref f_Hall_waiting) = true)
    (l_Hall_waiting : K.lookup f_Hall_waiting = some ⟨oc_Hall_waiting, od_Hall_waiting, .func (PySem.W.fnOf "waiting" "Hall.waiting" (defArgs a_Hall_waiting) (defBody a_Hall_waiting) (defScope a_Hall_waiting) .none kV_Hall_waiting dc_Hall_waiting pm_Hall_waiting an_Hall_waiting cd_Hall_waiting ct_Hall_waiting), sl_Hall_waiting⟩) (c_Hall_waiting : PySem.W.codeIn K cd_Hall_waiting "Hall.waiting" = true) (k_Hall_waiting : PySem.W.keepIn K (.ref f_Hall_waiting) = true)
    {f_Hall_gone : Addr} {od_Hall_gone an_Hall_gone : Option Addr} {sl_Hall_gone : Array (Option Value)} {oc_Hall_gone kV_Hall_gone dc_Hall_gone pm_Hall_gone cd_Hall_gone ct_Hall_gone : Value}
    (a_Hall_gone_ : PySem.W.findIn K (.ref C_Hall) "gone" = some (some (.ref f_Hall_gone))) (i_Hall_gone : PySem.W.isFn K (.ref f_Hall_gone) = true)
    (l_Hall_gone : K.lookup f_Hall_gone = some ⟨oc_Hall_gone, od_Hall_gone, .func (PySem.W.fnOf "gone" "Hall.gone" (defArgs a_Hall_gone) (defBody a_Hall_gone) (defScope a_Hall_gone) .none kV_Hall_gone dc_Hall_gone pm_Hall_gone an_Hall_gone cd_Hall_gone ct_Hall_gone), sl_Hall_gone⟩) (c_Hall_gone : PySem.W.codeIn K cd_Hall_gone "Hall.gone" = true) (k_Hall_gone : PySem.W.keepIn K (.ref f_Hall_gone) = true)
    (z1 : PySem.W.nsIn K mainGlobals "abs" = some none)
    (z2 : PySem.W.nsIn K mainGlobals "all" = some none)
    (z3 : PySem.W.nsIn K mainGlobals "bool" = some none)
    (z4 : PySem.W.nsIn K mainGlobals "enumerate" = some none)
    (z5 : PySem.W.nsIn K mainGlobals "int" = some none)
    (z6 : PySem.W.nsIn K mainGlobals "isinstance" = some none)
    (z7 : PySem.W.nsIn K mainGlobals "len" = some none)
    (z8 : PySem.W.nsIn K mainGlobals "max" = some none)
    (z9 : PySem.W.nsIn K mainGlobals "min" = some none)
    (z10 : PySem.W.nsIn K mainGlobals "range" = some none)
    (z11 : PySem.W.nsIn K mainGlobals "repr" = some none)
    (z12 : PySem.W.nsIn K mainGlobals "sorted" = some none)
    (z13 : PySem.W.nsIn K mainGlobals "str" = some none)
    (z14 : PySem.W.nsIn K mainGlobals "tuple" = some none)
    (z15 : PySem.W.nsIn K mainGlobals "zip" = some none)
    : ∃ fd : FuncData, (∀ (s : Shared) (v : Value), BindsTo s fd ⟨[v], []⟩ [("_law_script", v)]) ∧ ∀ base : Heap, K.In base → base.Ns mainGlobals mg → FnG l.prog w K mg base 11 fa fd ["_law_script"] (spLaw K) := by
  have e := hfa.symm.trans (PySem.W.mg_of X G a39)
  cases e
  have F1 := fun_mk (st := a_is_whole) l1 c1 k1
  have b1 := F1.binds (ps := ["thing"]) fun _ _ _ _ _ _ us hl => match us, hl with | [_], _ => rfl
  have g1 := PySem.W.mg_of X G a1
  have F2 := fun_mk (st := a_is_place) l2 c2 k2
  have b2 := F2.binds (ps := ["top", "thing"]) fun _ _ _ _ _ _ us hl => match us, hl with | [_, _], _ => rfl
  have g2 := PySem.W.mg_of X G a2
  have F3 := fun_mk (st := kTops) l3 c3 k3
  have b3 := F3.binds (ps := ["thing"]) fun _ _ _ _ _ _ us hl => match us, hl with | [_], _ => rfl
  have g3 := PySem.W.mg_of X G a3
  have F4 := fun_mk (st := kSide) l4 c4 k4
  have b4 := F4.binds (ps := ["tops", "thing"]) fun _ _ _ _ _ _ us hl => match us, hl with | [_, _], _ => rfl
  have g4 := PySem.W.mg_of X G a4
  have F5 := fun_mk (st := kSides) l5 c5 k5
  have b5 := F5.binds (ps := ["tops", "thing"]) fun _ _ _ _ _ _ us hl => match us, hl with | [_, _], _ => rfl
  have g5 := PySem.W.mg_of X G a5
  have F6 := fun_mk (st := kRule) l6 c6 k6
  have b6 := F6.binds (ps := ["tops", "thing"]) fun _ _ _ _ _ _ us hl => match us, hl with | [_, _], _ => rfl
  have g6 := PySem.W.mg_of X G a6
  have F7 := fun_mk (st := kRules) l7 c7 k7
  have b7 := F7.binds (ps := ["tops", "thing"]) fun _ _ _ _ _ _ us hl => match us, hl with | [_, _], _ => rfl
  have g7 := PySem.W.mg_of X G a7
  have F8 := fun_mk (st := a_is_standing) l8 c8 k8
  have b8 := F8.binds (ps := ["plan", "thing"]) fun _ _ _ _ _ _ us hl => match us, hl with | [_, _], _ => rfl
  have g8 := PySem.W.mg_of X G a8
  have F9 := fun_mk (st := a_is_in) l9 c9 k9
  have b9 := F9.binds (ps := ["side", "standing"]) fun _ _ _ _ _ _ us hl => match us, hl with | [_, _], _ => rfl
  have g9 := PySem.W.mg_of X G a9
  have F10 := fun_mk (st := kKept) l10 c10 k10
  have b10 := F10.binds (ps := ["rule", "standing"]) fun _ _ _ _ _ _ us hl => match us, hl with | [_, _], _ => rfl
  have g10 := PySem.W.mg_of X G a10
  have F11 := fun_mk (st := a_is_shared) l11 c11 k11
  have b11 := F11.binds (ps := ["rule"]) fun _ _ _ _ _ _ us hl => match us, hl with | [_], _ => rfl
  have g11 := PySem.W.mg_of X G a11
  have F12 := fun_mk (st := a_own_side) l12 c12 k12
  have b12 := F12.binds (ps := ["rule", "thing"]) fun _ _ _ _ _ _ us hl => match us, hl with | [_, _], _ => rfl
  have g12 := PySem.W.mg_of X G a12
  have F13 := fun_mk (st := a_out_span) l13 c13 k13
  have b13 := F13.binds (ps := ["side", "low", "high"]) fun _ _ _ _ _ _ us hl => match us, hl with | [_, _, _], _ => rfl
  have g13 := PySem.W.mg_of X G a13
  have F14 := fun_mk (st := a_is_out_at) l14 c14 k14
  have b14 := F14.binds (ps := ["side", "place"]) fun _ _ _ _ _ _ us hl => match us, hl with | [_, _], _ => rfl
  have g14 := PySem.W.mg_of X G a14
  have F15 := fun_mk (st := a_numbered_rules) l15 c15 k15
  have b15 := F15.binds (ps := ["state"]) fun _ _ _ _ _ _ us hl => match us, hl with | [_], _ => rfl
  have g15 := PySem.W.mg_of X G a15
  have F16 := fun_mk (st := a_standing_of) l16 c16 k16
  have b16 := F16.binds (ps := ["state"]) fun _ _ _ _ _ _ us hl => match us, hl with | [_], _ => rfl
  have g16 := PySem.W.mg_of X G a16
  have F17 := fun_mk (st := a_check_standing) l17 c17 k17
  have b17 := F17.binds (ps := ["plan", "numbered", "thing"]) fun _ _ _ _ _ _ us hl => match us, hl with | [_, _, _], _ => rfl
  have g17 := PySem.W.mg_of X G a17
  have F18 := fun_mk (st := a_things_of) l18 c18 k18
  have b18 := F18.binds (ps := ["rule"]) fun _ _ _ _ _ _ us hl => match us, hl with | [_], _ => rfl
  have g18 := PySem.W.mg_of X G a18
  have F19 := fun_mk (st := a_first_count) l19 c19 k19
  have b19 := F19.binds (ps := ["rule", "standing"]) fun _ _ _ _ _ _ us hl => match us, hl with | [_, _], _ => rfl
  have g19 := PySem.W.mg_of X G a19
  have F20 := fun_mk (st := a_add_rule) l20 c20 k20
  have b20 := F20.binds (ps := ["state", "rule"]) fun _ _ _ _ _ _ us hl => match us, hl with | [_, _], _ => rfl
  have g20 := PySem.W.mg_of X G a20
  have F21 := fun_mk (st := a_first_state) l21 c21 k21
  have b21 := F21.binds (ps := ["plan", "standing"]) fun _ _ _ _ _ _ us hl => match us, hl with | [_, _], _ => rfl
  have g21 := PySem.W.mg_of X G a21
  have F22 := fun_mk (st := a_shared_counts) l22 c22 k22
  have b22 := F22.binds (ps := ["state"]) fun _ _ _ _ _ _ us hl => match us, hl with | [_], _ => rfl
  have g22 := PySem.W.mg_of X G a22
  have F23 := fun_mk (st := a_leave_holder) l23 c23 k23
  have b23 := F23.binds (ps := ["rule", "first", "second"]) fun _ _ _ _ _ _ us hl => match us, hl with | [_, _, _], _ => rfl
  have g23 := PySem.W.mg_of X G a23
  have F24 := fun_mk (st := sPot) l24 c24 k24
  have b24 := F24.binds (ps := ["_law_script", "_law_k"]) fun _ _ _ _ _ _ us hl => match us, hl with | [_, _], _ => rfl
  have g24 := PySem.W.mg_of X G a24
  have F25 := fun_mk (st := sTake) l25 c25 k25
  have b25 := F25.binds (ps := ["_law_pot_here", "_law_many"]) fun _ _ _ _ _ _ us hl => match us, hl with | [_, _], _ => rfl
  have g25 := PySem.W.mg_of X G a25
  have F26 := fun_mk (st := sOf) l26 c26 k26
  have b26 := F26.binds (ps := ["_law_pot_here", "_law_some"]) fun _ _ _ _ _ _ us hl => match us, hl with | [_, _], _ => rfl
  have g26 := PySem.W.mg_of X G a26
  have F27 := fun_mk (st := aIn) l27 c27 k27
  have b27 := F27.binds (ps := ["_law_side", "_law_standing_here"]) fun _ _ _ _ _ _ us hl => match us, hl with | [_, _], _ => rfl
  have g27 := PySem.W.mg_of X G a27
  have F28 := fun_mk (st := aBrk) l28 c28 k28
  have b28 := F28.binds (ps := ["_law_rules_here", "_law_standing_here"]) fun _ _ _ _ _ _ us hl => match us, hl with | [_, _], _ => rfl
  have g28 := PySem.W.mg_of X G a28
  have F29 := fun_mk (st := sStand) l29 c29 k29
  have b29 := F29.binds (ps := ["_law_pot_here", "_law_tops_here"]) fun _ _ _ _ _ _ us hl => match us, hl with | [_, _], _ => rfl
  have g29 := PySem.W.mg_of X G a29
  have F30 := fun_mk (st := aSideIn) l30 c30 k30
  have b30 := F30.binds (ps := ["_law_pot_here", "_law_tops_here", "_law_standing_here"]) fun _ _ _ _ _ _ us hl => match us, hl with | [_, _, _], _ => rfl
  have g30 := PySem.W.mg_of X G a30
  have F31 := fun_mk (st := aRules) l31 c31 k31
  have b31 := F31.binds (ps := ["_law_pot_here", "_law_tops_here", "_law_one", "_law_two", "_law_many"]) fun _ _ _ _ _ _ us hl => match us, hl with | [_, _, _, _, _], _ => rfl
  have g31 := PySem.W.mg_of X G a31
  have F32 := fun_mk (st := aTops) l32 c32 k32
  have b32 := F32.binds (ps := ["_law_pot_here"]) fun _ _ _ _ _ _ us hl => match us, hl with | [_], _ => rfl
  have g32 := PySem.W.mg_of X G a32
  have F33 := fun_mk (st := a__law_case) l33 c33 k33
  have b33 := F33.binds (ps := ["_law_pot_here", "_law_many"]) fun _ _ _ _ _ _ us hl => match us, hl with | [_, _], _ => rfl
  have g33 := PySem.W.mg_of X G a33
  have F34 := fun_mk (st := a__law_odd) l34 c34 k34
  have b34 := F34.binds (ps := ["_law_pot_here"]) fun _ _ _ _ _ _ us hl => match us, hl with | [_], _ => rfl
  have g34 := PySem.W.mg_of X G a34
  have F35 := fun_mk (st := a__law_is_standing) l35 c35 k35
  have b35 := F35.binds (ps := ["_law_tops_here", "_law_thing"]) fun _ _ _ _ _ _ us hl => match us, hl with | [_, _], _ => rfl
  have g35 := PySem.W.mg_of X G a35
  have F36 := fun_mk (st := a__law_made) l36 c36 k36
  have b36 := F36.binds (ps := ["_law_plan", "_law_standing_here"]) fun _ _ _ _ _ _ us hl => match us, hl with | [_, _], _ => rfl
  have g36 := PySem.W.mg_of X G a36
  have F37 := fun_mk (st := a__law_first_right) l37 c37 k37
  have b37 := F37.binds (ps := ["_law_rules_here", "_law_standing_here", "_law_hall"]) fun _ _ _ _ _ _ us hl => match us, hl with | [_, _, _], _ => rfl
  have g37 := PySem.W.mg_of X G a37
  have F38 := fun_mk (st := a__law_is_wrong) l38 c38 k38
  have b38 := F38.binds (ps := ["_law_pot_here", "_law_plan", "_law_rules_here", "_law_tops_here"]) fun _ _ _ _ _ _ us hl => match us, hl with | [_, _, _, _], _ => rfl
  have g38 := PySem.W.mg_of X G a38
  have F39 := fun_mk (st := a_law) l39 c39 k39
  have m1 := PySem.W.mg_none_of X G z1
  have m2 := PySem.W.mg_none_of X G z2
  have m3 := PySem.W.mg_none_of X G z3
  have m4 := PySem.W.mg_none_of X G z4
  have m5 := PySem.W.mg_none_of X G z5
  have m6 := PySem.W.mg_none_of X G z6
  have m7 := PySem.W.mg_none_of X G z7
  have m8 := PySem.W.mg_none_of X G z8
  have m9 := PySem.W.mg_none_of X G z9
  have m10 := PySem.W.mg_none_of X G z10
  have m11 := PySem.W.mg_none_of X G z11
  have m12 := PySem.W.mg_none_of X G z12
  have m13 := PySem.W.mg_none_of X G z13
  have m14 := PySem.W.mg_none_of X G z14
  have m15 := PySem.W.mg_none_of X G z15
  have TX : PlanTxt K mg C := ⟨⟨pg, hd, po, sa⟩, nTo, nRu, PySem.W.mg_of X G aC⟩
  have MK : Mk K C f0 := ⟨mk, aI, iI, kc⟩
  have FD : FunD K "__init__" "Plan.__init__" (defArgs kInit) (defBody kInit) (defScope kInit) [V.ref e0] [] f0 (PySem.W.fnOf "__init__" "Plan.__init__" (defArgs kInit) (defBody kInit) (defScope kInit) (.ref Td) kV0 dc0 pm0 an0 cd0 ct0) :=
    ⟨⟨oc0, od0, .ref Td, kV0, dc0, pm0, an0, cd0, ct0, sl0, rfl, lI, cI, .inr ⟨by simp, Td, _, [.ref e0], nT, rfl, lT, rfl, .cons rfl .nil⟩, .inl rfl⟩, kI⟩
  obtain ⟨ds, rds, bI⟩ := FD.binds1 (ps := ["self", "tops", "rules"]) 3 1 (by simp) rfl fun T kV doc pm an cdv ct us its h1 h2 => match us, its, h1, h2 with | [_, _, _], [_], _, _ => ⟨_, rfl, rfl⟩
  cases rds
  have hW : ∀ H, SqT K H wa [.str "from", .str "to"] := fun H => .inr ⟨_, _, _, v5, rfl, rfl, (show 2 ≤ sizeLine by decide), .cons ⟨_, rfl⟩ (.cons ⟨_, rfl⟩ .nil)⟩
  have gv1 := PySem.W.mg_of X G v1
  have gv2 := PySem.W.mg_of X G v2
  have gv3 := PySem.W.mg_of X G v3
  have gv4 := PySem.W.mg_of X G v4
  have IC : C8.InsC K C := ⟨⟨pg, hd, po, sa⟩, ic1, ic2, ic3, ic4, kit_self⟩
  have IN : ∀ d : PyData, PySem.W.kitOne K (.type (tyD d)) (.ref C) = some false := kit_tyno hd ic5
  have F_NoPlan := fun_mk (st := kI_NoPlan) l_NoPlan c_NoPlan kf_NoPlan
  have b_NoPlan := F_NoPlan.binds (ps := ["self", "field"]) fun _ _ _ _ _ _ us hl => match us, hl with | [_, _], _ => rfl
  have O_NoPlan : OexC K C_NoPlan := ⟨⟨_, _, _, _, _, _, _, _, _, _, _, _, _, _, _, x_NoPlan, r_NoPlan⟩, sa_NoPlan, e_NoPlan, ty_NoPlan, kC_NoPlan⟩
  have EX_NoPlan : ExT K mg "NoPlan" "field" C_NoPlan f_NoPlan _ := ⟨PySem.W.mg_of X G a_NoPlan, O_NoPlan, nb_NoPlan, i_NoPlan, t_NoPlan, ⟨ga_NoPlan, gg_NoPlan, e_NoPlan, hd_NoPlan⟩, exm_self e_NoPlan is_NoPlan ty_NoPlan ss_NoPlan, b_NoPlan⟩
  have F_NoStanding := fun_mk (st := kI_NoStanding) l_NoStanding c_NoStanding kf_NoStanding
  have b_NoStanding := F_NoStanding.binds (ps := ["self", "thing"]) fun _ _ _ _ _ _ us hl => match us, hl with | [_, _], _ => rfl
  have O_NoStanding : OexC K C_NoStanding := ⟨⟨_, _, _, _, _, _, _, _, _, _, _, _, _, _, _, x_NoStanding, r_NoStanding⟩, sa_NoStanding, e_NoStanding, ty_NoStanding, kC_NoStanding⟩
  have EX_NoStanding : ExT K mg "NoStanding" "thing" C_NoStanding f_NoStanding _ := ⟨PySem.W.mg_of X G a_NoStanding, O_NoStanding, nb_NoStanding, i_NoStanding, t_NoStanding, ⟨ga_NoStanding, gg_NoStanding, e_NoStanding, hd_NoStanding⟩, exm_self e_NoStanding is_NoStanding ty_NoStanding ss_NoStanding, b_NoStanding⟩
  have F_Broken := fun_mk (st := kI_Broken) l_Broken c_Broken kf_Broken
  have b_Broken := F_Broken.binds (ps := ["self", "rules"]) fun _ _ _ _ _ _ us hl => match us, hl with | [_, _], _ => rfl
  have O_Broken : OexC K C_Broken := ⟨⟨_, _, _, _, _, _, _, _, _, _, _, _, _, _, _, x_Broken, r_Broken⟩, sa_Broken, e_Broken, ty_Broken, kC_Broken⟩
  have EX_Broken : ExT K mg "Broken" "rules" C_Broken f_Broken _ := ⟨PySem.W.mg_of X G a_Broken, O_Broken, nb_Broken, i_Broken, t_Broken, ⟨ga_Broken, gg_Broken, e_Broken, hd_Broken⟩, exm_self e_Broken is_Broken ty_Broken ss_Broken, b_Broken⟩
  have EN_NoStanding_NoPlan := exm_no (K := K) (X := C_NoStanding) (S := C_NoPlan) e_NoPlan is_NoPlan ty_NoPlan xo_NoStanding_NoPlan
  have EN_Broken_NoPlan := exm_no (K := K) (X := C_Broken) (S := C_NoPlan) e_NoPlan is_NoPlan ty_NoPlan xo_Broken_NoPlan
  have EN_Broken_NoStanding := exm_no (K := K) (X := C_Broken) (S := C_NoStanding) e_NoStanding is_NoStanding ty_NoStanding xo_Broken_NoStanding
  have cl_Hand : Cls K C_Hand := ⟨pg_Hand, hd_Hand, po_Hand, sa_Hand⟩
  have HX : HandTxt K C_Hand := ⟨cl_Hand, n_Hand_thing, n_Hand_place, n_Hand_wish, n_Hand_held, n_Hand_tally⟩
  have mgC_Hand := PySem.W.mg_of X G aC_Hand
  have F_Hand___init__ := fun_mk (st := a_Hand___init__) l_Hand___init__ c_Hand___init__ k_Hand___init__
  have b_Hand___init__ := F_Hand___init__.binds (ps := ["self", "thing", "place", "rules"]) fun _ _ _ _ _ _ us hl => match us, hl with | [_, _, _, _], _ => rfl
  have MK_Hand : Mk K C_Hand f_Hand___init__ := ⟨mk_Hand, a_Hand___init___, i_Hand___init__, kc_Hand⟩
  have bI_Hand := b_Hand___init__
  have F_Hand_shares := fun_mk (st := a_Hand_shares) l_Hand_shares c_Hand_shares k_Hand_shares
  have b_Hand_shares := F_Hand_shares.binds (ps := ["self", "number"]) fun _ _ _ _ _ _ us hl => match us, hl with | [_, _], _ => rfl
  have F_Hand_shared := fun_mk (st := a_Hand_shared) l_Hand_shared c_Hand_shared k_Hand_shared
  have b_Hand_shared := F_Hand_shared.binds (ps := ["self"]) fun _ _ _ _ _ _ us hl => match us, hl with | [_], _ => rfl
  have F_Hand_count_of := fun_mk (st := a_Hand_count_of) l_Hand_count_of c_Hand_count_of k_Hand_count_of
  have b_Hand_count_of := F_Hand_count_of.binds (ps := ["self", "number"]) fun _ _ _ _ _ _ us hl => match us, hl with | [_, _], _ => rfl
  have F_Hand_has_leave := fun_mk (st := a_Hand_has_leave) l_Hand_has_leave c_Hand_has_leave k_Hand_has_leave
  have b_Hand_has_leave := F_Hand_has_leave.binds (ps := ["self", "number"]) fun _ _ _ _ _ _ us hl => match us, hl with | [_, _], _ => rfl
  have F_Hand_wished_place := fun_mk (st := a_Hand_wished_place) l_Hand_wished_place c_Hand_wished_place k_Hand_wished_place
  have b_Hand_wished_place := F_Hand_wished_place.binds (ps := ["self"]) fun _ _ _ _ _ _ us hl => match us, hl with | [_], _ => rfl
  have F_Hand_lacks := fun_mk (st := a_Hand_lacks) l_Hand_lacks c_Hand_lacks k_Hand_lacks
  have b_Hand_lacks := F_Hand_lacks.binds (ps := ["self"]) fun _ _ _ _ _ _ us hl => match us, hl with | [_], _ => rfl
  have F_Hand_put := fun_mk (st := a_Hand_put) l_Hand_put c_Hand_put k_Hand_put
  have b_Hand_put := F_Hand_put.binds (ps := ["self", "number", "rule", "count"]) fun _ _ _ _ _ _ us hl => match us, hl with | [_, _, _, _], _ => rfl
  have cl_State : Cls K C_State := ⟨pg_State, hd_State, po_State, sa_State⟩
  have HX_State : StateTxt K C_State := ⟨cl_State, n_State_tops, n_State_rules, n_State_hands, n_State_letters, n_State_next_mark, n_State_next_rule, n_State_last_wish, n_State_all_gone⟩
  have mgC_State := PySem.W.mg_of X G aC_State
  have F_State___init__ := fun_mk (st := a_State___init__) l_State___init__ c_State___init__ k_State___init__
  have b_State___init__ := F_State___init__.binds (ps := ["self", "tops"]) fun _ _ _ _ _ _ us hl => match us, hl with | [_, _], _ => rfl
  have MK_State : Mk K C_State f_State___init__ := ⟨mk_State, a_State___init___, i_State___init__, kc_State⟩
  have bI_State := b_State___init__
  have cl_Hall : Cls K C_Hall := ⟨pg_Hall, hd_Hall, po_Hall, sa_Hall⟩
  have HX_Hall : HallTxt K C_Hall := ⟨cl_Hall, n_Hall_now, n_Hall_past⟩
  have mgC_Hall := PySem.W.mg_of X G aC_Hall
  have F_Hall___init__ := fun_mk (st := a_Hall___init__) l_Hall___init__ c_Hall___init__ k_Hall___init__
  have b_Hall___init__ := F_Hall___init__.binds (ps := ["self", "plan", "standing"]) fun _ _ _ _ _ _ us hl => match us, hl with | [_, _, _], _ => rfl
  have MK_Hall : Mk K C_Hall f_Hall___init__ := ⟨mk_Hall, a_Hall___init___, i_Hall___init__, kc_Hall⟩
  have bI_Hall := b_Hall___init__
  have F_Hall___len__ := fun_mk (st := a_Hall___len__) l_Hall___len__ c_Hall___len__ k_Hall___len__
  have b_Hall___len__ := F_Hall___len__.binds (ps := ["self"]) fun _ _ _ _ _ _ us hl => match us, hl with | [_], _ => rfl
  have F_Hall_numbered := fun_mk (st := a_Hall_numbered) l_Hall_numbered c_Hall_numbered k_Hall_numbered
  have b_Hall_numbered := F_Hall_numbered.binds (ps := ["self"]) fun _ _ _ _ _ _ us hl => match us, hl with | [_], _ => rfl
  have F_Hall_standing := fun_mk (st := a_Hall_standing) l_Hall_standing c_Hall_standing k_Hall_standing
  have b_Hall_standing := F_Hall_standing.binds (ps := ["self"]) fun _ _ _ _ _ _ us hl => match us, hl with | [_], _ => rfl
  have F_Hall_heard := fun_mk (st := a_Hall_heard) l_Hall_heard c_Hall_heard k_Hall_heard
  have b_Hall_heard := F_Hall_heard.binds (ps := ["self"]) fun _ _ _ _ _ _ us hl => match us, hl with | [_], _ => rfl
  have F_Hall_leaves := fun_mk (st := a_Hall_leaves) l_Hall_leaves c_Hall_leaves k_Hall_leaves
  have b_Hall_leaves := F_Hall_leaves.binds (ps := ["self"]) fun _ _ _ _ _ _ us hl => match us, hl with | [_], _ => rfl
  have F_Hall_counts := fun_mk (st := a_Hall_counts) l_Hall_counts c_Hall_counts k_Hall_counts
  have b_Hall_counts := F_Hall_counts.binds (ps := ["self"]) fun _ _ _ _ _ _ us hl => match us, hl with | [_], _ => rfl
  have F_Hall_under_way := fun_mk (st := a_Hall_under_way) l_Hall_under_way c_Hall_under_way k_Hall_under_way
  have b_Hall_under_way := F_Hall_under_way.binds (ps := ["self"]) fun _ _ _ _ _ _ us hl => match us, hl with | [_], _ => rfl
  have F_Hall_waiting := fun_mk (st := a_Hall_waiting) l_Hall_waiting c_Hall_waiting k_Hall_waiting
  have b_Hall_waiting := F_Hall_waiting.binds (ps := ["self"]) fun _ _ _ _ _ _ us hl => match us, hl with | [_], _ => rfl
  have F_Hall_gone := fun_mk (st := a_Hall_gone) l_Hall_gone c_Hall_gone k_Hall_gone
  have b_Hall_gone := F_Hall_gone.binds (ps := ["self"]) fun _ _ _ _ _ _ us hl => match us, hl with | [_], _ => rfl
  refine ⟨PySem.W.fnOf "law" "law" (defArgs a_law) (defBody a_law) (defScope a_law) .none kV39 dc39 pm39 an39 cd39 ct39, fun s v => .of_eq rfl, fun base _ _ => ?_⟩
  have GX_NoPlan := ok_NoPlan (P := l.prog) (w := w) (mg := mg) (base := base) F_NoPlan O_NoPlan nb_NoPlan
  have GX_NoStanding := ok_NoStanding (P := l.prog) (w := w) (mg := mg) (base := base) F_NoStanding O_NoStanding nb_NoStanding
  have GX_Broken := ok_Broken (P := l.prog) (w := w) (mg := mg) (base := base) F_Broken O_Broken nb_Broken
  have PI := (⟨IC, IN⟩ : PlanIs K C)
  have X3 := (⟨EN_NoStanding_NoPlan, EN_Broken_NoPlan, EN_Broken_NoStanding⟩ : Exm3 K C_NoPlan C_NoStanding C_Broken)
  have M_Hall___len__ : C8.Met l.prog w K mg base _ C_Hall "__len__" _ [] := ⟨_, _, _, [], cl_Hall, ⟨a_Hall___len___, i_Hall___len__, k_Hall___len__⟩, ok_Hall___len__ (k := 0) (C := C_Hand) (CS := C_State) F_Hall___len__ HX_Hall m7, b_Hall___len__, .nil⟩
  have K_is_whole := Kn.mk (x := "is_whole") (base := base) (w := w) (P := l.prog) (ok_is_whole (k := 0) F1 m3 m5 m6) g1 F1.kp b1
  have K_is_place := Kn.mk (x := "is_place") (base := base) (w := w) (P := l.prog) (ok_is_place (k := 0) F2 K_is_whole) g2 F2.kp b2
  have Kwh := Kn.mk (x := "is_whole") (base := base) (w := w) (P := l.prog) (ok_whole (k := 0) F1 m6 m5 m3) g1 F1.kp b1
  have Kpl := Kn.mk (x := "is_place") (base := base) (w := w) (P := l.prog) (ok_place (k := 0) F2 Kwh) g2 F2.kp b2
  have Kto := Kn.mk (x := "are_tops") (base := base) (w := w) (P := l.prog) (ok_tops (k := 0) F3 Kpl m6 m14 m7 m2 gv1 gv3) g3 F3.kp b3
  have K_are_tops := Kto
  have Ksi := Kn.mk (x := "is_side_of") (base := base) (w := w) (P := l.prog) (ok_side (k := 0) F4 Kpl m6 m14 m7 m13 gv4 hW) g4 F4.kp b4
  have K_is_side_of := Ksi
  have Kss := Kn.mk (x := "are_sides_of") (base := base) (w := w) (P := l.prog) (ok_sides (k := 0) F5 Ksi m6 m14 m2) g5 F5.kp b5
  have K_are_sides_of := Kss
  have Kru := Kn.mk (x := "is_rule_of") (base := base) (w := w) (P := l.prog) (ok_rule (k := 0) F6 Kss m7) g6 F6.kp b6
  have K_is_rule_of := Kru
  have Krs := Kn.mk (x := "are_rules_of") (base := base) (w := w) (P := l.prog) (ok_rules (k := 0) F7 Kru m6 m14 m7 m2 gv2) g7 F7.kp b7
  have K_are_rules_of := Krs
  have K_is_standing := Kn.mk (x := "is_standing") (base := base) (w := w) (P := l.prog) (ok_is_standing (k := 0) F8 K_is_place TX m2 m6 m7 m14 m15) g8 F8.kp b8
  have K_is_in := Kn.mk (x := "is_in") (base := base) (w := w) (P := l.prog) (ok_is_in (k := 0) F9 ) g9 F9.kp b9
  have K_is_kept := Kn.mk (x := "is_kept") (base := base) (w := w) (P := l.prog) (ok_kept (k := 0) F10 K_is_in) g10 F10.kp b10
  have K_is_shared := Kn.mk (x := "is_shared") (base := base) (w := w) (P := l.prog) (ok_is_shared (k := 0) F11 ) g11 F11.kp b11
  have K_own_side := Kn.mk (x := "own_side") (base := base) (w := w) (P := l.prog) (ok_own_side (k := 0) F12 ) g12 F12.kp b12
  have K_out_span := Kn.mk (x := "out_span") (base := base) (w := w) (P := l.prog) (ok_out_span (k := 0) F13 m8 m9) g13 F13.kp b13
  have K_is_out_at := Kn.mk (x := "is_out_at") (base := base) (w := w) (P := l.prog) (ok_is_out_at (k := 0) F14 K_out_span) g14 F14.kp b14
  have K_numbered_rules := Kn.mk (x := "numbered_rules") (base := base) (w := w) (P := l.prog) (ok_numbered_rules (k := 0) (C := C_Hand) F15 HX_State m12 m14) g15 F15.kp b15
  have K_standing_of := Kn.mk (x := "standing_of") (base := base) (w := w) (P := l.prog) (ok_standing_of (k := 0) F16 HX_State HX m14) g16 F16.kp b16
  have K_check_standing := KnX.mk (x := "check_standing") (base := base) (w := w) (P := l.prog) (ok_check_standing (k := 0) F17 K_is_standing K_is_kept EX_NoStanding GX_NoStanding EX_Broken GX_Broken m14) g17 F17.kp b17
  have K_things_of := Kn.mk (x := "things_of") (base := base) (w := w) (P := l.prog) (ok_things_of (k := 0) F18 m12) g18 F18.kp b18
  have K_first_count := Kn.mk (x := "first_count") (base := base) (w := w) (P := l.prog) (ok_first_count (k := 0) F19 K_is_in K_is_shared) g19 F19.kp b19
  have M_Hand_put : C8.Met l.prog w K mg base _ C_Hand "put" _ [] := ⟨_, _, _, [], cl_Hand, ⟨a_Hand_put_, i_Hand_put, k_Hand_put⟩, ok_Hand_put (k := 0) F_Hand_put K_is_whole HX, b_Hand_put, .nil⟩
  have K_add_rule := Kn.mk (x := "add_rule") (base := base) (w := w) (P := l.prog) (ok_add_rule (k := 0) F20 K_first_count K_standing_of K_things_of M_Hand_put HX_State HX) g20 F20.kp b20
  have GI_State := ok_State___init__ (P := l.prog) (w := w) (mg := mg) (base := base) (k := 0) F_State___init__ HX_State
  have GI_Hand := ok_Hand___init__ (P := l.prog) (w := w) (mg := mg) (base := base) (k := 0) F_Hand___init__ HX
  have K_first_state := Kn.mk (x := "first_state") (base := base) (w := w) (P := l.prog) (ok_first_state (k := 0) F21 K_add_rule HX_State HX TX MK_State GI_State bI_State mgC_State MK_Hand GI_Hand bI_Hand mgC_Hand m4) g21 F21.kp b21
  have M_Hand_shares : C8.Met l.prog w K mg base _ C_Hand "shares" _ [] := ⟨_, _, _, [], cl_Hand, ⟨a_Hand_shares_, i_Hand_shares, k_Hand_shares⟩, ok_Hand_shares (k := 0) F_Hand_shares K_is_whole K_is_shared HX, b_Hand_shares, .nil⟩
  have M_Hand_count_of : C8.Met l.prog w K mg base _ C_Hand "count_of" _ [] := ⟨_, _, _, [], cl_Hand, ⟨a_Hand_count_of_, i_Hand_count_of, k_Hand_count_of⟩, ok_Hand_count_of (k := 0) F_Hand_count_of M_Hand_shares HX, b_Hand_count_of, .nil⟩
  have K_shared_counts := Kn.mk (x := "shared_counts") (base := base) (w := w) (P := l.prog) (ok_shared_counts (k := 0) F22 K_numbered_rules K_is_shared M_Hand_count_of HX_State HX) g22 F22.kp b22
  have K_leave_holder := Kn.mk (x := "leave_holder") (base := base) (w := w) (P := l.prog) (ok_leave_holder (k := 0) F23 ) g23 F23.kp b23
  have Ktake := Kn.mk (x := "_law_take") (base := base) (w := w) (P := l.prog) (ok_take (k := 0) F25) g25 F25.kp b25
  have K__law_take := Ktake
  have Kof := Kn.mk (x := "_law_of") (base := base) (w := w) (P := l.prog) (ok_of (k := 0) F26 Ktake m7) g26 F26.kp b26
  have K__law_of := Kof
  have Ktp := Kn.mk (x := "_law_tops") (base := base) (w := w) (P := l.prog) (ok_topsL (k := 0) F32 Ktake Kof m10 m14) g32 F32.kp b32
  have K__law_tops := Ktp
  have Kst := Kn.mk (x := "_law_standing") (base := base) (w := w) (P := l.prog) (ok_stand (k := 0) F29 Ktake m14) g29 F29.kp b29
  have K__law_standing := Kst
  have Kse := Kn.mk (x := "_law_side_in") (base := base) (w := w) (P := l.prog) (ok_sideIn (k := 0) F30 Ktake m7) g30 F30.kp b30
  have K__law_side_in := Kse
  have Krl := Kn.mk (x := "_law_rules") (base := base) (w := w) (P := l.prog) (ok_rulesL (k := 0) F31 Ktake Kse m10 m14) g31 F31.kp b31
  have K__law_rules := Krl
  have K__law_case := Kn.mk (x := "_law_case") (base := base) (w := w) (P := l.prog) (ok__law_case (k := 0) F33 K__law_tops K__law_standing K__law_rules K__law_take) g33 F33.kp b33
  have K__law_odd := Kn.mk (x := "_law_odd") (base := base) (w := w) (P := l.prog) (ok__law_odd (k := 0) F34 K__law_of) g34 F34.kp b34
  have K__law_is_standing := Kn.mk (x := "_law_is_standing") (base := base) (w := w) (P := l.prog) (ok__law_is_standing (k := 0) F35 m3 m5 m6 m7 m14 m15) g35 F35.kp b35
  have GI_Hall := ok_Hall___init__ (P := l.prog) (w := w) (mg := mg) (base := base) (k := 0) F_Hall___init__ K_check_standing K_first_state HX_Hall TX PI EX_NoPlan GX_NoPlan m4 m6 m14
  have K__law_made := Kn.mk (x := "_law_made") (base := base) (w := w) (P := l.prog) (ok__law_made (k := 0) F36 EX_NoPlan EX_NoStanding EX_Broken X3 MK_Hall GI_Hall bI_Hall mgC_Hall) g36 F36.kp b36
  have Kli := Kn.mk (x := "_law_is_in") (base := base) (w := w) (P := l.prog) (ok_lin (k := 0) F27) g27 F27.kp b27
  have K__law_is_in := Kli
  have M_Hall_standing : C8.Met l.prog w K mg base _ C_Hall "standing" _ [] := ⟨_, _, _, [], cl_Hall, ⟨a_Hall_standing_, i_Hall_standing, k_Hall_standing⟩, ok_Hall_standing (k := 0) F_Hall_standing K_standing_of HX_Hall, b_Hall_standing, .nil⟩
  have M_Hall_heard : C8.Met l.prog w K mg base _ C_Hall "heard" _ [] := ⟨_, _, _, [], cl_Hall, ⟨a_Hall_heard_, i_Hall_heard, k_Hall_heard⟩, ok_Hall_heard (k := 0) F_Hall_heard HX_Hall HX_State HX m14, b_Hall_heard, .nil⟩
  have M_Hall_counts : C8.Met l.prog w K mg base _ C_Hall "counts" _ [] := ⟨_, _, _, [], cl_Hall, ⟨a_Hall_counts_, i_Hall_counts, k_Hall_counts⟩, ok_Hall_counts (k := 0) F_Hall_counts K_shared_counts HX_Hall m8 m14, b_Hall_counts, .nil⟩
  have M_Hall_leaves : C8.Met l.prog w K mg base _ C_Hall "leaves" _ [] := ⟨_, _, _, [], cl_Hall, ⟨a_Hall_leaves_, i_Hall_leaves, k_Hall_leaves⟩, ok_Hall_leaves (k := 0) F_Hall_leaves K_shared_counts K_leave_holder HX_Hall m14, b_Hall_leaves, .nil⟩
  have M_Hall_under_way : C8.Met l.prog w K mg base _ C_Hall "under_way" _ [] := ⟨_, _, _, [], cl_Hall, ⟨a_Hall_under_way_, i_Hall_under_way, k_Hall_under_way⟩, ok_Hall_under_way (k := 0) (C := C_Hand) F_Hall_under_way HX_Hall HX_State m14, b_Hall_under_way, .nil⟩
  have M_Hand_shared : C8.Met l.prog w K mg base _ C_Hand "shared" _ [] := ⟨_, _, _, [], cl_Hand, ⟨a_Hand_shared_, i_Hand_shared, k_Hand_shared⟩, ok_Hand_shared (k := 0) F_Hand_shared K_is_shared HX m12, b_Hand_shared, .nil⟩
  have M_Hand_has_leave : C8.Met l.prog w K mg base _ C_Hand "has_leave" _ [] := ⟨_, _, _, [], cl_Hand, ⟨a_Hand_has_leave_, i_Hand_has_leave, k_Hand_has_leave⟩, ok_Hand_has_leave (k := 0) F_Hand_has_leave M_Hand_count_of HX, b_Hand_has_leave, .nil⟩
  have M_Hand_wished_place : C8.Met l.prog w K mg base _ C_Hand "wished_place" _ [] := ⟨_, _, _, [], cl_Hand, ⟨a_Hand_wished_place_, i_Hand_wished_place, k_Hand_wished_place⟩, ok_Hand_wished_place (k := 0) F_Hand_wished_place HX, b_Hand_wished_place, .nil⟩
  have M_Hand_lacks : C8.Met l.prog w K mg base _ C_Hand "lacks" _ [] := ⟨_, _, _, [], cl_Hand, ⟨a_Hand_lacks_, i_Hand_lacks, k_Hand_lacks⟩, ok_Hand_lacks (k := 0) F_Hand_lacks M_Hand_shared M_Hand_has_leave M_Hand_wished_place K_own_side K_is_out_at HX m14, b_Hand_lacks, .nil⟩
  have M_Hall_waiting : C8.Met l.prog w K mg base _ C_Hall "waiting" _ [] := ⟨_, _, _, [], cl_Hall, ⟨a_Hall_waiting_, i_Hall_waiting, k_Hall_waiting⟩, ok_Hall_waiting (k := 0) F_Hall_waiting M_Hand_lacks HX_Hall HX_State HX m14, b_Hall_waiting, .nil⟩
  have M_Hall_gone : C8.Met l.prog w K mg base _ C_Hall "gone" _ [] := ⟨_, _, _, [], cl_Hall, ⟨a_Hall_gone_, i_Hall_gone, k_Hall_gone⟩, ok_Hall_gone (k := 0) (C := C_Hand) F_Hall_gone HX_Hall HX_State, b_Hall_gone, .nil⟩
  have M_Hall_numbered : C8.Met l.prog w K mg base _ C_Hall "numbered" _ [] := ⟨_, _, _, [], cl_Hall, ⟨a_Hall_numbered_, i_Hall_numbered, k_Hall_numbered⟩, ok_Hall_numbered (k := 0) F_Hall_numbered K_numbered_rules HX_Hall, b_Hall_numbered, .nil⟩
  have GLH := ok_Hall___len__ (P := l.prog) (w := w) (mg := mg) (base := base) (k := 0) (C := C_Hand) (CS := C_State) F_Hall___len__ HX_Hall m7
  have K__law_first_right := ok__law_first_right (P := l.prog) (w := w) (mg := mg) (base := base) F37 K__law_is_in M_Hall_standing M_Hall_heard M_Hall_counts M_Hall_leaves M_Hall_under_way M_Hall_waiting M_Hall_gone M_Hall_numbered GLH a_Hall___len___ i_Hall___len__ b_Hall___len__ m4 m5 m7 m11 m14
  have Kbk := Kn.mk (x := "_law_broken") (base := base) (w := w) (P := l.prog) (ok_brk (k := 0) F28 Kli m4) g28 F28.kp b28
  have K__law_broken := Kbk
  have K__law_is_wrong := ok__law_is_wrong (P := l.prog) (w := w) (mg := mg) (base := base) F38 K__law_standing K__law_odd K__law_of K__law_made K__law_is_standing K__law_broken K__law_first_right g37 F37.kp b37 m10 m11 m14
  have Kpot := Kn.mk (x := "_law_pot") (base := base) (w := w) (P := l.prog) (ok_pot (k := 0) F24 m7 m1 m5) g24 F24.kp b24
  have K__law_pot := Kpot
  have GI := ok_init (P := l.prog) (w := w) (base := base) (k := 0) FD TX Kto Krs
  have GHg := hall_good (P := l.prog) (w := w) (mg := mg) (base := base) GI_Hall
  exact ok_law F39 K__law_pot K__law_case K__law_first_right g37 F37.kp b37 K__law_is_wrong g38 F38.kp b38 TX MK GI bI MK_Hall GHg bI_Hall mgC_Hall m7 m9 m10
end K66
open PySem PySem.W PyProof.Rows
set_option maxHeartbeats 0 in
theorem PySem.Challenge.cw_notbothout_k66_halls_at_first_holds : PySem.Challenge.rw_notbothout_k66_halls_at_first.Holds := by
  w_on; o_law; k_head; (case hw => w_witness2)
  k_fill
  refine NB.walkG (l := PySem.Challenge.rw_notbothout_k66_halls_at_first) (n := 63) (k := 11) (x := "_law_script") (sp := fun w => K66.spLaw _) rfl (by decide) rfl ⟨rfl, by decide, by decide⟩ (fun w h Y => PySem.W.kIn_of Y) ?F (fun _ _ a ns hl hS => ⟨a, ns, rfl, hS, hl, fun _ => rfl⟩)
  case F =>
    intro w mg fa h KX G hmg
    refine' K66.all_mk KX G hmg ?a1 ?l1 ?c1 ?k1 ?a2 ?l2 ?c2 ?k2 ?a3 ?l3 ?c3 ?k3 ?a4 ?l4 ?c4 ?k4 ?a5 ?l5 ?c5 ?k5 ?a6 ?l6 ?c6 ?k6 ?a7 ?l7 ?c7 ?k7 ?a8 ?l8 ?c8 ?k8 ?a9 ?l9 ?c9 ?k9 ?a10 ?l10 ?c10 ?k10 ?a11 ?l11 ?c11 ?k11 ?a12 ?l12 ?c12 ?k12 ?a13 ?l13 ?c13 ?k13 ?a14 ?l14 ?c14 ?k14 ?a15 ?l15 ?c15 ?k15 ?a16 ?l16 ?c16 ?k16 ?a17 ?l17 ?c17 ?k17 ?a18 ?l18 ?c18 ?k18 ?a19 ?l19 ?c19 ?k19 ?a20 ?l20 ?c20 ?k20 ?a21 ?l21 ?c21 ?k21 ?a22 ?l22 ?c22 ?k22 ?a23 ?l23 ?c23 ?k23 ?a24 ?l24 ?c24 ?k24 ?a25 ?l25 ?c25 ?k25 ?a26 ?l26 ?c26 ?k26 ?a27 ?l27 ?c27 ?k27 ?a28 ?l28 ?c28 ?k28 ?a29 ?l29 ?c29 ?k29 ?a30 ?l30 ?c30 ?k30 ?a31 ?l31 ?c31 ?k31 ?a32 ?l32 ?c32 ?k32 ?a33 ?l33 ?c33 ?k33 ?a34 ?l34 ?c34 ?k34 ?a35 ?l35 ?c35 ?k35 ?a36 ?l36 ?c36 ?k36 ?a37 ?l37 ?c37 ?k37 ?a38 ?l38 ?c38 ?k38 ?a39 ?l39 ?c39 ?k39 ?aC ?aI ?iI ?lI ?cI ?kI ?lT ?pg ?hd ?po ?sa ?mk ?kc ?nTo ?nRu ?v1 ?v2 ?v3 ?v4 ?v5 ?a_NoPlan ?x_NoPlan ?r_NoPlan ?sa_NoPlan ?ga_NoPlan ?gg_NoPlan ?nb_NoPlan ?i_NoPlan ?t_NoPlan ?l_NoPlan ?c_NoPlan ?kf_NoPlan ?kC_NoPlan ?e_NoPlan ?ty_NoPlan ?hd_NoPlan ?is_NoPlan ?ss_NoPlan ?a_NoStanding ?x_NoStanding ?r_NoStanding ?sa_NoStanding ?ga_NoStanding ?gg_NoStanding ?nb_NoStanding ?i_NoStanding ?t_NoStanding ?l_NoStanding ?c_NoStanding ?kf_NoStanding ?kC_NoStanding ?e_NoStanding ?ty_NoStanding ?hd_NoStanding ?is_NoStanding ?ss_NoStanding ?a_Broken ?x_Broken ?r_Broken ?sa_Broken ?ga_Broken ?gg_Broken ?nb_Broken ?i_Broken ?t_Broken ?l_Broken ?c_Broken ?kf_Broken ?kC_Broken ?e_Broken ?ty_Broken ?hd_Broken ?is_Broken ?ss_Broken ?xo_NoStanding_NoPlan ?xo_Broken_NoPlan ?xo_Broken_NoStanding ?ic1 ?ic2 ?ic3 ?ic4 ?ic5 ?aC_Hand ?pg_Hand ?hd_Hand ?po_Hand ?sa_Hand ?mk_Hand ?kc_Hand ?n_Hand_thing ?n_Hand_place ?n_Hand_wish ?n_Hand_held ?n_Hand_tally ?a_Hand___init___ ?i_Hand___init__ ?l_Hand___init__ ?c_Hand___init__ ?k_Hand___init__ ?a_Hand_shares_ ?i_Hand_shares ?l_Hand_shares ?c_Hand_shares ?k_Hand_shares ?a_Hand_shared_ ?i_Hand_shared ?l_Hand_shared ?c_Hand_shared ?k_Hand_shared ?a_Hand_count_of_ ?i_Hand_count_of ?l_Hand_count_of ?c_Hand_count_of ?k_Hand_count_of ?a_Hand_has_leave_ ?i_Hand_has_leave ?l_Hand_has_leave ?c_Hand_has_leave ?k_Hand_has_leave ?a_Hand_wished_place_ ?i_Hand_wished_place ?l_Hand_wished_place ?c_Hand_wished_place ?k_Hand_wished_place ?a_Hand_lacks_ ?i_Hand_lacks ?l_Hand_lacks ?c_Hand_lacks ?k_Hand_lacks ?a_Hand_put_ ?i_Hand_put ?l_Hand_put ?c_Hand_put ?k_Hand_put ?aC_State ?pg_State ?hd_State ?po_State ?sa_State ?mk_State ?kc_State ?n_State_tops ?n_State_rules ?n_State_hands ?n_State_letters ?n_State_next_mark ?n_State_next_rule ?n_State_last_wish ?n_State_all_gone ?a_State___init___ ?i_State___init__ ?l_State___init__ ?c_State___init__ ?k_State___init__ ?aC_Hall ?pg_Hall ?hd_Hall ?po_Hall ?sa_Hall ?mk_Hall ?kc_Hall ?n_Hall_now ?n_Hall_past ?a_Hall___init___ ?i_Hall___init__ ?l_Hall___init__ ?c_Hall___init__ ?k_Hall___init__ ?a_Hall___len___ ?i_Hall___len__ ?l_Hall___len__ ?c_Hall___len__ ?k_Hall___len__ ?a_Hall_numbered_ ?i_Hall_numbered ?l_Hall_numbered ?c_Hall_numbered ?k_Hall_numbered ?a_Hall_standing_ ?i_Hall_standing ?l_Hall_standing ?c_Hall_standing ?k_Hall_standing ?a_Hall_heard_ ?i_Hall_heard ?l_Hall_heard ?c_Hall_heard ?k_Hall_heard ?a_Hall_leaves_ ?i_Hall_leaves ?l_Hall_leaves ?c_Hall_leaves ?k_Hall_leaves ?a_Hall_counts_ ?i_Hall_counts ?l_Hall_counts ?c_Hall_counts ?k_Hall_counts ?a_Hall_under_way_ ?i_Hall_under_way ?l_Hall_under_way ?c_Hall_under_way ?k_Hall_under_way ?a_Hall_waiting_ ?i_Hall_waiting ?l_Hall_waiting ?c_Hall_waiting ?k_Hall_waiting ?a_Hall_gone_ ?i_Hall_gone ?l_Hall_gone ?c_Hall_gone ?k_Hall_gone ?z1 ?z2 ?z3 ?z4 ?z5 ?z6 ?z7 ?z8 ?z9 ?z10 ?z11 ?z12 ?z13 ?z14 ?z15
    (case a1 => k_is)
    (case l1 => k_is)
    (case c1 => k_is)
    (case k1 => k_is)
    (case a2 => k_is)
    (case l2 => k_is)
    (case c2 => k_is)
    (case k2 => k_is)
    (case a3 => k_is)
    (case l3 => k_is)
    (case c3 => k_is)
    (case k3 => k_is)
    (case a4 => k_is)
    (case l4 => k_is)
    (case c4 => k_is)
    (case k4 => k_is)
    (case a5 => k_is)
    (case l5 => k_is)
    (case c5 => k_is)
    (case k5 => k_is)
    (case a6 => k_is)
    (case l6 => k_is)
    (case c6 => k_is)
    (case k6 => k_is)
    (case a7 => k_is)
    (case l7 => k_is)
    (case c7 => k_is)
    (case k7 => k_is)
    (case a8 => k_is)
    (case l8 => k_is)
    (case c8 => k_is)
    (case k8 => k_is)
    (case a9 => k_is)
    (case l9 => k_is)
    (case c9 => k_is)
    (case k9 => k_is)
    (case a10 => k_is)
    (case l10 => k_is)
    (case c10 => k_is)
    (case k10 => k_is)
    (case a11 => k_is)
    (case l11 => k_is)
    (case c11 => k_is)
    (case k11 => k_is)
    (case a12 => k_is)
    (case l12 => k_is)
    (case c12 => k_is)
    (case k12 => k_is)
    (case a13 => k_is)
    (case l13 => k_is)
    (case c13 => k_is)
    (case k13 => k_is)
    (case a14 => k_is)
    (case l14 => k_is)
    (case c14 => k_is)
    (case k14 => k_is)
    (case a15 => k_is)
    (case l15 => k_is)
    (case c15 => k_is)
    (case k15 => k_is)
    (case a16 => k_is)
    (case l16 => k_is)
    (case c16 => k_is)
    (case k16 => k_is)
    (case a17 => k_is)
    (case l17 => k_is)
    (case c17 => k_is)
    (case k17 => k_is)
    (case a18 => k_is)
    (case l18 => k_is)
    (case c18 => k_is)
    (case k18 => k_is)
    (case a19 => k_is)
    (case l19 => k_is)
    (case c19 => k_is)
    (case k19 => k_is)
    (case a20 => k_is)
    (case l20 => k_is)
    (case c20 => k_is)
    (case k20 => k_is)
    (case a21 => k_is)
    (case l21 => k_is)
    (case c21 => k_is)
    (case k21 => k_is)
    (case a22 => k_is)
    (case l22 => k_is)
    (case c22 => k_is)
    (case k22 => k_is)
    (case a23 => k_is)
    (case l23 => k_is)
    (case c23 => k_is)
    (case k23 => k_is)
    (case a24 => k_is)
    (case l24 => k_is)
    (case c24 => k_is)
    (case k24 => k_is)
    (case a25 => k_is)
    (case l25 => k_is)
    (case c25 => k_is)
    (case k25 => k_is)
    (case a26 => k_is)
    (case l26 => k_is)
    (case c26 => k_is)
    (case k26 => k_is)
    (case a27 => k_is)
    (case l27 => k_is)
    (case c27 => k_is)
    (case k27 => k_is)
    (case a28 => k_is)
    (case l28 => k_is)
    (case c28 => k_is)
    (case k28 => k_is)
    (case a29 => k_is)
    (case l29 => k_is)
    (case c29 => k_is)
    (case k29 => k_is)
    (case a30 => k_is)
    (case l30 => k_is)
    (case c30 => k_is)
    (case k30 => k_is)
    (case a31 => k_is)
    (case l31 => k_is)
    (case c31 => k_is)
    (case k31 => k_is)
    (case a32 => k_is)
    (case l32 => k_is)
    (case c32 => k_is)
    (case k32 => k_is)
    (case a33 => k_is)
    (case l33 => k_is)
    (case c33 => k_is)
    (case k33 => k_is)
    (case a34 => k_is)
    (case l34 => k_is)
    (case c34 => k_is)
    (case k34 => k_is)
    (case a35 => k_is)
    (case l35 => k_is)
    (case c35 => k_is)
    (case k35 => k_is)
    (case a36 => k_is)
    (case l36 => k_is)
    (case c36 => k_is)
    (case k36 => k_is)
    (case a37 => k_is)
    (case l37 => k_is)
    (case c37 => k_is)
    (case k37 => k_is)
    (case a38 => k_is)
    (case l38 => k_is)
    (case c38 => k_is)
    (case k38 => k_is)
    (case a39 => k_is)
    (case l39 => k_is)
    (case c39 => k_is)
    (case k39 => k_is)
    (case aC => k_is)
    (case aI => k_is)
    (case iI => k_is)
    (case lI => k_is)
    (case cI => k_is)
    (case kI => k_is)
    (case lT => k_is)
    (case pg => k_is)
    (case hd => k_is)
    (case po => k_is)
    (case sa => k_is)
    (case mk => k_is)
    (case kc => k_is)
    (case nTo => k_is)
    (case nRu => k_is)
    (case v1 => k_is)
    (case v2 => k_is)
    (case v3 => k_is)
    (case v4 => k_is)
    (case v5 => k_is)
    (case a_NoPlan => k_is)
    (case x_NoPlan => k_is)
    (case r_NoPlan => first | rfl | decide +kernel)
    (case sa_NoPlan => k_is)
    (case ga_NoPlan => k_is)
    (case gg_NoPlan => k_is)
    (case nb_NoPlan => k_is)
    (case i_NoPlan => k_is)
    (case t_NoPlan => k_is)
    (case l_NoPlan => k_is)
    (case c_NoPlan => k_is)
    (case kf_NoPlan => k_is)
    (case kC_NoPlan => k_is)
    (case e_NoPlan => k_is)
    (case ty_NoPlan => k_is)
    (case hd_NoPlan => k_is)
    (case is_NoPlan => k_is)
    (case ss_NoPlan => first | rfl | k_is)
    (case a_NoStanding => k_is)
    (case x_NoStanding => k_is)
    (case r_NoStanding => first | rfl | decide +kernel)
    (case sa_NoStanding => k_is)
    (case ga_NoStanding => k_is)
    (case gg_NoStanding => k_is)
    (case nb_NoStanding => k_is)
    (case i_NoStanding => k_is)
    (case t_NoStanding => k_is)
    (case l_NoStanding => k_is)
    (case c_NoStanding => k_is)
    (case kf_NoStanding => k_is)
    (case kC_NoStanding => k_is)
    (case e_NoStanding => k_is)
    (case ty_NoStanding => k_is)
    (case hd_NoStanding => k_is)
    (case is_NoStanding => k_is)
    (case ss_NoStanding => first | rfl | k_is)
    (case a_Broken => k_is)
    (case x_Broken => k_is)
    (case r_Broken => first | rfl | decide +kernel)
    (case sa_Broken => k_is)
    (case ga_Broken => k_is)
    (case gg_Broken => k_is)
    (case nb_Broken => k_is)
    (case i_Broken => k_is)
    (case t_Broken => k_is)
    (case l_Broken => k_is)
    (case c_Broken => k_is)
    (case kf_Broken => k_is)
    (case kC_Broken => k_is)
    (case e_Broken => k_is)
    (case ty_Broken => k_is)
    (case hd_Broken => k_is)
    (case is_Broken => k_is)
    (case ss_Broken => first | rfl | k_is)
    (case xo_NoStanding_NoPlan => k_is)
    (case xo_Broken_NoPlan => k_is)
    (case xo_Broken_NoStanding => k_is)
    (case ic1 => k_is)
    (case ic2 => k_is)
    (case ic3 => k_is)
    (case ic4 => k_is)
    (case ic5 => k_is)
    (case aC_Hand => k_is)
    (case pg_Hand => k_is)
    (case hd_Hand => k_is)
    (case po_Hand => k_is)
    (case sa_Hand => k_is)
    (case mk_Hand => k_is)
    (case kc_Hand => k_is)
    (case n_Hand_thing => k_is)
    (case n_Hand_place => k_is)
    (case n_Hand_wish => k_is)
    (case n_Hand_held => k_is)
    (case n_Hand_tally => k_is)
    (case a_Hand___init___ => k_is)
    (case i_Hand___init__ => k_is)
    (case l_Hand___init__ => k_is)
    (case c_Hand___init__ => k_is)
    (case k_Hand___init__ => k_is)
    (case a_Hand_shares_ => k_is)
    (case i_Hand_shares => k_is)
    (case l_Hand_shares => k_is)
    (case c_Hand_shares => k_is)
    (case k_Hand_shares => k_is)
    (case a_Hand_shared_ => k_is)
    (case i_Hand_shared => k_is)
    (case l_Hand_shared => k_is)
    (case c_Hand_shared => k_is)
    (case k_Hand_shared => k_is)
    (case a_Hand_count_of_ => k_is)
    (case i_Hand_count_of => k_is)
    (case l_Hand_count_of => k_is)
    (case c_Hand_count_of => k_is)
    (case k_Hand_count_of => k_is)
    (case a_Hand_has_leave_ => k_is)
    (case i_Hand_has_leave => k_is)
    (case l_Hand_has_leave => k_is)
    (case c_Hand_has_leave => k_is)
    (case k_Hand_has_leave => k_is)
    (case a_Hand_wished_place_ => k_is)
    (case i_Hand_wished_place => k_is)
    (case l_Hand_wished_place => k_is)
    (case c_Hand_wished_place => k_is)
    (case k_Hand_wished_place => k_is)
    (case a_Hand_lacks_ => k_is)
    (case i_Hand_lacks => k_is)
    (case l_Hand_lacks => k_is)
    (case c_Hand_lacks => k_is)
    (case k_Hand_lacks => k_is)
    (case a_Hand_put_ => k_is)
    (case i_Hand_put => k_is)
    (case l_Hand_put => k_is)
    (case c_Hand_put => k_is)
    (case k_Hand_put => k_is)
    (case aC_State => k_is)
    (case pg_State => k_is)
    (case hd_State => k_is)
    (case po_State => k_is)
    (case sa_State => k_is)
    (case mk_State => k_is)
    (case kc_State => k_is)
    (case n_State_tops => k_is)
    (case n_State_rules => k_is)
    (case n_State_hands => k_is)
    (case n_State_letters => k_is)
    (case n_State_next_mark => k_is)
    (case n_State_next_rule => k_is)
    (case n_State_last_wish => k_is)
    (case n_State_all_gone => k_is)
    (case a_State___init___ => k_is)
    (case i_State___init__ => k_is)
    (case l_State___init__ => k_is)
    (case c_State___init__ => k_is)
    (case k_State___init__ => k_is)
    (case aC_Hall => k_is)
    (case pg_Hall => k_is)
    (case hd_Hall => k_is)
    (case po_Hall => k_is)
    (case sa_Hall => k_is)
    (case mk_Hall => k_is)
    (case kc_Hall => k_is)
    (case n_Hall_now => k_is)
    (case n_Hall_past => k_is)
    (case a_Hall___init___ => k_is)
    (case i_Hall___init__ => k_is)
    (case l_Hall___init__ => k_is)
    (case c_Hall___init__ => k_is)
    (case k_Hall___init__ => k_is)
    (case a_Hall___len___ => k_is)
    (case i_Hall___len__ => k_is)
    (case l_Hall___len__ => k_is)
    (case c_Hall___len__ => k_is)
    (case k_Hall___len__ => k_is)
    (case a_Hall_numbered_ => k_is)
    (case i_Hall_numbered => k_is)
    (case l_Hall_numbered => k_is)
    (case c_Hall_numbered => k_is)
    (case k_Hall_numbered => k_is)
    (case a_Hall_standing_ => k_is)
    (case i_Hall_standing => k_is)
    (case l_Hall_standing => k_is)
    (case c_Hall_standing => k_is)
    (case k_Hall_standing => k_is)
    (case a_Hall_heard_ => k_is)
    (case i_Hall_heard => k_is)
    (case l_Hall_heard => k_is)
    (case c_Hall_heard => k_is)
    (case k_Hall_heard => k_is)
    (case a_Hall_leaves_ => k_is)
    (case i_Hall_leaves => k_is)
    (case l_Hall_leaves => k_is)
    (case c_Hall_leaves => k_is)
    (case k_Hall_leaves => k_is)
    (case a_Hall_counts_ => k_is)
    (case i_Hall_counts => k_is)
    (case l_Hall_counts => k_is)
    (case c_Hall_counts => k_is)
    (case k_Hall_counts => k_is)
    (case a_Hall_under_way_ => k_is)
    (case i_Hall_under_way => k_is)
    (case l_Hall_under_way => k_is)
    (case c_Hall_under_way => k_is)
    (case k_Hall_under_way => k_is)
    (case a_Hall_waiting_ => k_is)
    (case i_Hall_waiting => k_is)
    (case l_Hall_waiting => k_is)
    (case c_Hall_waiting => k_is)
    (case k_Hall_waiting => k_is)
    (case a_Hall_gone_ => k_is)
    (case i_Hall_gone => k_is)
    (case l_Hall_gone => k_is)
    (case c_Hall_gone => k_is)
    (case k_Hall_gone => k_is)
    (case z1 => k_is)
    (case z2 => k_is)
    (case z3 => k_is)
    (case z4 => k_is)
    (case z5 => k_is)
    (case z6 => k_is)
    (case z7 => k_is)
    (case z8 => k_is)
    (case z9 => k_is)
    (case z10 => k_is)
    (case z11 => k_is)
    (case z12 => k_is)
    (case z13 => k_is)
    (case z14 => k_is)
    (case z15 => k_is)
