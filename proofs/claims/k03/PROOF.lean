import PyProof.Rows.All
import Wide.All
import OpenK.AllK
import Wide.FinOn
import HandS.WordsExc
import HandS.ForMost
import HandS.Exc
import HandS.TryOnly
import HandS.ExcOwn
import HandS.IsInst
import HandS.Zip
import HandS.Walk
import HandS.Wide
import HandS.WideBits
import HandS.Conv
import HandS.Codes
import HandS.Defaults
import HandS.TupAny
import HandS.Style
import HandS.Gcd
import HandS.EndBits
import HandS.Sort
import HandS.Slots
import HandS.SlotsOwn
import KE.GoesMore
import KE.KOpsOwn
import HandS.HeadEnd
import HandS.More
import PyProof.InstNe
import HandS.TupMul
import KE.KItemsList
import KE.KDictZip
import HandS.IterVal
import KE.KOwnIter
import OpenK.KMeth
import HandS.Base
import HandS.Call
import HandS.ExcIs
import HandS.ExcField
import KE.KExcIs
import HandS.SortKw
import HandS.WordsDict
import HandS.ExcCtx
import HandS.SuiteRaise
import HandS.RaiseFrom
import HandS.ExcInit
import HandS.ExcInitHot
import HandS.ForExc
import HandS.Comp
import KE.GoesRaise
import HandS.HotCalls
import PyProof.EnumIter
import PyProof.Rows.TupIter
import HandS.Small
import PySem.Challenge.RW_gridmetric_k03_unimodular_matrices
set_option Elab.async false
set_option linter.all false
set_option maxRecDepth 100000
set_option maxHeartbeats 40000000
/-! Further rules over the layer: // by any positive divisor; a range that is a value, walked; enumerate of a tuple; operators of an own class. -/
namespace Gm
open PySem PySem.Spec PyProof.Rows L2
section
variable {X : Cx}
/-! ### // by any positive divisor -/
theorem op_fdivP {env : Env} {l : List Env} (hN : X.base.NoSeer) (hst : X.stack = env :: l) (hgen : env.scope.isGenerator = false) (hco : env.scope.isCoroutine = false) (hb : env.builtins = builtinsNs) (hg : env.globals = mainGlobals)
    (ht : X.prog.given.tree = none) (hd : X.A.depth + 100 < recursionLimit) : OpR X (binaryOp .FloorDiv) (rI (fun _ j => 0 < j) fun i j => .int (i / j)) := by
  intro pn s σ H x y v u Q I rx ry h
  obtain ⟨i, j, rfl, rfl, hCond, q⟩ := h
  obtain ⟨t, rfl⟩ := rx
  obtain ⟨t', rfl⟩ := ry
  have h1 : (0 : Int) < j := hCond
  have hs : SeerAt (model X.prog X.w) X.A s.heap := PySem.SeerAt.of (hN.keeps I.bk) ht (I.ok.frames.trans (congrArg some hst)) hgen hco hb hg
  refine floordiv_int (by omega) ?_ (.inr (PySem.PylongRoom.of I.nolimit hd hs))
  rw [Int.fdiv_eq_ediv_of_nonneg i (by omega)]
  exact ⟨.int (i / j), H, I.tok _, ⟨_, rfl⟩, q⟩
theorem op_fdivQ {env : Env} {l : List Env} (hN : X.base.NoSeer) (hst : X.stack = env :: l) (hgen : env.scope.isGenerator = false) (hco : env.scope.isCoroutine = false) (hb : env.builtins = builtinsNs) (hg : env.globals = mainGlobals)
    (ht : X.prog.given.tree = none) (hd : X.A.depth + 100 < recursionLimit) : OpR X (binaryOp .FloorDiv) (rI (fun _ j => j ≠ 0) fun i j => .int (i.fdiv j)) := by
  intro pn s σ H x y v u Q I rx ry h
  obtain ⟨i, j, rfl, rfl, hCond, q⟩ := h
  obtain ⟨t, rfl⟩ := rx
  obtain ⟨t', rfl⟩ := ry
  have hs : SeerAt (model X.prog X.w) X.A s.heap := PySem.SeerAt.of (hN.keeps I.bk) ht (I.ok.frames.trans (congrArg some hst)) hgen hco hb hg
  refine floordiv_int hCond ?_ (.inr (PySem.PylongRoom.of I.nolimit hd hs))
  exact ⟨.int (i.fdiv j), H, I.tok _, ⟨_, rfl⟩, q⟩
theorem room100 {k : Nat} {A : Around} (hr : Room k A) (hk : 40 ≤ k) : A.depth + 100 < recursionLimit := by
  have := hr.dp
  omega
/-! ### a range as a value, and walked -/
theorem cr_range1 : CallR X (.type "range") (fun vs H Q => ∃ j, vs = [V.int j] ∧ ∀ p, H p = none → Q (.ref p) (upd H p (.rng 0 j))) := by
  intro pn s σ H vs argv Q I r h
  obtain ⟨j, rfl, q⟩ := h
  cases r with
  | cons r rr =>
    cases rr
    obtain ⟨t, rfl⟩ := r
    exact call_range_1 ⟨.ref s.heap.objs.size, upd H s.heap.objs.size (.rng 0 j), I.laid (t' := s.toks + 1 + 1) (fun b o e => Heap.get?_push_of_some _ e) (Nat.le_refl _) ⟨_, _, _, Heap.get?_push_size _ rfl⟩, rfl, q _ (I.hok.fresh (Nat.le_refl _))⟩
def iRv (te : TE) : TI := fun σ H R => te σ H fun v H1 => ∃ a lo hi, v = .ref a ∧ H1 a = some (.rng lo hi) ∧ (-(2 ^ 62) ≤ lo ∧ lo < 2 ^ 62 ∧ -(2 ^ 62) ≤ hi ∧ hi < 2 ^ 62) ∧ R (Itr lo (hi - lo).toNat) H1
theorem pi_rngv {tg e : Expr} {te : TE} (he : PE X e te) : PI X tg e (iRv te) := by
  refine ⟨fun pn s σ H R I h => ?_⟩
  refine thn (he.run pn s σ H _ I h) fun v s1 ⟨x, H1, J1, rel1, post1⟩ => ?_
  obtain ⟨a, lo, hi, ex, ha, ⟨post1, q2, q3, q4⟩, q⟩ := post1
  subst ex
  cases rel1
  obtain ⟨t, u, w, hr⟩ := J1.hok a _ ha
  refine wpAny_pyIter_range (show IsRange s1.heap a lo hi 1 t u w from hr) (small_one post1 q2 q3 q4) ?_
  refine ⟨s1.heap.objs.size, [s1.heap.objs.size], _, _, H1, rfl, J1.kept (t' := s1.toks) fun b o e => Heap.get?_push_of_some _ e, turn_range _ lo (hi - lo).toNat, ?_, fun b hb => ?_, q⟩
  · have eLo : lo + ((0 : Nat) : Int) * 1 = lo := by simp
    have eHi : (((hi - lo).toNat : Nat) : Int) - ((0 : Nat) : Int) = Builtin.Range.rangeSize lo hi 1 := by rw [rangeSize_one]; split <;> omega
    show IsRangeIter _ _ (lo + ((0 : Nat) : Int) * 1) ((((hi - lo).toNat : Nat) : Int) - ((0 : Nat) : Int)) 1
    rw [eLo, eHi]
    exact Heap.get?_push_size _ rfl
  · have e : b = s1.heap.objs.size := by simpa using hb
    subst e
    exact J1.fpOk (Nat.le_refl _) (J1.hok.fresh (Nat.le_refl _))
end
end Gm
namespace Gm
open PySem PySem.Spec PyProof.Rows L2
open AutoSeq1 (wpAny_loadPart')
/-! ### enumerate of a tuple -/
theorem meets_enumerate_newT (l : Addr) (items : Array Value) (n : Nat) (dc : Option Addr) (slo : Array (Option Value)) :
    Meets (Builtin.«enumerate.__new__» ⟨[.type "enumerate", .ref l], []⟩) (fun _ R s => s.heap.get? l = some { cls := .type "tuple", dict := dc, data := .seq items n, slots := slo } ∧
      R (.ok (.ret (.ref (s.heap.push { cls := .type "tuple_iterator", data := .fields #[.ref l, .int 0 0] }).objs.size)))
        { s with heap := (s.heap.push { cls := .type "tuple_iterator", data := .fields #[.ref l, .int 0 0] }).push { cls := .type "enumerate", data := .fields #[.none, .bool false, .ref s.heap.objs.size, rawInt 0, .none, .none] } }) :=
  .of_wp fun prog w A R s h => by
    obtain ⟨heap0, g, d, tk0, os0⟩ := s; obtain ⟨hGet, h⟩ := h
    have hsub := sub_enumerate
    have hL : Heap.IsTuple (Shared.heap ⟨heap0, g, d, tk0, os0⟩) l items := ⟨_, hGet, rfl, n, rfl⟩
    wp_walk using wpAny_loadPart' hGet
    refine wpAny_stack_any fun stt => wpAny_pure ?_
    split
    · rename_i c _ _ _ _ _
      cases (c == Value.type "enumerate")
      · wp_walk using wpAny_loadPart' hGet, wpAny_pyIter_tuple hL
        exact ⟨_, rfl, h⟩
      · wp_walk using wpAny_loadPart' hGet, wpAny_pyIter_tuple hL
        exact ⟨_, rfl, h⟩
    · wp_walk using wpAny_loadPart' hGet, wpAny_pyIter_tuple hL
      exact ⟨_, rfl, h⟩
section
variable {prog : Program} {w : World} {A : Around} {E : Value → Shared → Prop} {s : Shared}
theorem call_enumerate_tuple {l : Addr} {items : Array Value} {Q : Value → Shared → Prop} (hL : s.heap.IsTuple l items)
    (h : ∀ h', IsEnum h' (s.heap.objs.size + 1) s.heap.objs.size 0 .none → h'.IsTupleIter s.heap.objs.size l 0 → h'.objs.size = s.heap.objs.size + 2 →
      (∀ b o, s.heap.get? b = some o → h'.get? b = some o) → Q (.ref (s.heap.objs.size + 1)) { s with heap := h' }) :
    wpAny (model prog w) A (call (.type "enumerate") [.ref l]) Q E s := by
  obtain ⟨⟨c, dc, dd, slo⟩, hGet, hCls, n, hDat⟩ := hL
  replace hCls : c = .type "tuple" := hCls
  replace hDat : dd = .seq items n := hDat
  subst hCls hDat
  refine callType_new F.called_enumerate (by decide) (F.typeCall_enumerate_1 _) (F.newCall_enumerate_1 _) (fun obj => F.args_object_init_2 obj _) F.entry_enumerate_new
    (meets_enumerate_newT l items n dc slo) ⟨hGet, ?_⟩
  have hLen : (s.heap.push { cls := .type "tuple_iterator", data := .fields #[.ref l, .int 0 0] }).objs.size = s.heap.objs.size + 1 := Heap.size_push ..
  show _ ∧ _
  rw [hLen]
  have hEn : IsEnum ((s.heap.push { cls := .type "tuple_iterator", data := .fields #[.ref l, .int 0 0] }).push
      { cls := .type "enumerate", data := .fields #[.none, .bool false, .ref s.heap.objs.size, rawInt 0, .none, .none] }) (s.heap.objs.size + 1) s.heap.objs.size 0 .none := by
    have := Heap.get?_push_size (s.heap.push { cls := .type "tuple_iterator", data := .fields #[.ref l, .int 0 0] })
      (o := { cls := .type "enumerate", data := .fields #[.none, .bool false, .ref s.heap.objs.size, rawInt 0, .none, .none] }) rfl
    rw [hLen] at this; exact this
  refine ⟨⟨_, hEn, rfl⟩, h _ hEn ⟨_, Heap.get?_push_of_some _ (Heap.get?_push_size _ rfl), rfl, rfl⟩ (by rw [Heap.size_push, hLen]) fun b o x => Heap.get?_push_of_some _ (Heap.get?_push_of_some _ x)⟩
end
def IteT (K : PySem.W.Frag) (a : Addr) : It :=
  ⟨fun i H => ∃ (xv : List V) (x : V), SqT K H a xv ∧ xv[i]? = some x, fun i H v H' => ∃ T0 x, v = .ref T0 ∧ H T0 = none ∧ H' = upd H T0 (.tup [.int (i : Nat), x]) ∧ ∀ xv, SqT K H a xv → xv[i]? = some x, fun i H => ∃ xv : List V, SqT K H a xv ∧ xv.length ≤ i⟩
theorem turn_enumT {P : Program} {w : World} {K : PySem.W.Frag} {elts : List Expr} {kk : Nat} {tpos : Pos} (a e it : Addr) (hAi : a ≠ it) :
    Turn P w K (.Tuple elts kk tpos) (IteT K a) [e, it] e (fun i h => (∃ ol, IsEnum h e it ((i : Nat) : Int) ol) ∧ h.IsTupleIter it a i ∧ e ≠ it) where
  mem := by simp
  obj := fun i h stt b hBm => by
    obtain ⟨⟨ol, hEn⟩, ⟨o, ho, hCls, hDat⟩, _⟩ := stt
    have ee : b = e ∨ b = it := by simpa using hBm
    rcases ee with zq | zq
    · rw [zq]; exact ⟨_, hEn, fun v q => nomatch q⟩
    · rw [zq]; exact ⟨o, ho, fun v q => by rw [hDat] at q; cases q⟩
  keep := fun i h h' stt k => let ⟨⟨ol, hEn⟩, hIx, hDif⟩ := stt; ⟨⟨ol, k e (by simp) _ hEn⟩, hIx.at fun o q => k it (by simp) o q, hDif⟩
  item := by
    intro X hP hw hK hCls i pn s σ H E I hFp stt hGo
    subst hP hw hK
    obtain ⟨⟨ol, hEn⟩, hTi, hDif⟩ := stt
    obtain ⟨xv, x, hSq, hXi⟩ := hGo
    obtain ⟨vals, hvals, p, hLen⟩ := I.tuple hSq
    obtain ⟨u, hUi, rUi⟩ := hvals.get hXi
    have lEn : e < s.heap.objs.size := Heap.lt_size hEn
    have lTi : it < s.heap.objs.size := by obtain ⟨_, q, _⟩ := hTi; exact Heap.lt_size q
    have p' : s.heap.IsTuple a vals.toArray := p
    have hae : a ≠ e := by
      intro zq
      subst zq
      obtain ⟨o1, e1, c1, _⟩ := p'
      rw [hEn] at e1
      cases e1
      exact absurd (Value.type.inj c1) (by decide)
    have hLt : i < vals.toArray.size := by
      have := (List.getElem?_eq_some_iff.mp hUi).1
      simpa using this
    refine wpAny_pyNext_enum_itemD (Draws.tuple (prog := X.prog) (w := X.w) (A := X.A.in1) (I.ok.hd hCls) it a hAi vals.toArray) hEn ⟨hTi, p'⟩ hLt hDif (by simp [hDif, Ne.symm hae]) fun x' h' tk0 hP ho st' hTy hSz hKp => ?_
    obtain ⟨hit', p2⟩ := st'
    have hx' : x' = u := by
      have : vals[i]? = some x' := by simpa using hP
      rw [hUi] at this
      exact (Option.some.inj this).symm
    subst hx'
    refine ⟨_, rfl, wpAny_letOwnedTupleGo_enum (s := { s with heap := h', toks := tk0 + 1 }) ho fun h'' he' sBig => ?_⟩
    have hTy2 : h''.get? s.heap.objs.size = some { cls := .type "tuple", data := .seq #[.int i tk0, x'] } := (sBig.2 _ (Nat.ne_of_gt lEn)).trans hTy
    have nw : ObjOk X.prog X.w (upd H s.heap.objs.size (.tup [.int (i : Nat), x])) h'' s.heap.objs.size (.tup [.int (i : Nat), x]) :=
      ⟨by show 2 ≤ sizeLine; decide, [.int i tk0, x'], .cons ⟨_, rfl⟩ (.cons rUi .nil), ⟨_, hTy2, rfl, _, rfl⟩⟩
    have J1 : Inv X pn σ (upd H s.heap.objs.size (.tup [.int (i : Nat), x])) { s with heap := h'', toks := tk0 + 1 } :=
      I.turnedNew (ch := [e, it]) (fun b ob hBm q => (sBig.2 b (fun zq => hBm (by simp [zq]))).trans (hKp b ob (fun zq => hBm (by simp [zq])) (fun zq => hBm (by simp [zq])) q)) hFp (Nat.le_refl _) nw
    refine ⟨.ref s.heap.objs.size, _, J1, rfl, ⟨_, x, rfl, I.hok.fresh (Nat.le_refl _), rfl, fun yv hy => by rw [I.tuple_inj hy hSq]; exact hXi⟩, ⟨⟨x', ?_⟩, hit'.at fun o q => (sBig.2 it (Ne.symm hDif)).trans q, hDif⟩, fun b hBm => ?_⟩
    · have e1 : ((i + 1 : Nat) : Int) = (i : Int) + 1 := by omega
      rw [e1]; exact he'
    · have hBm2 : b < s.heap.objs.size := by
        have ee : b = e ∨ b = it := by simpa using hBm
        rcases ee with zq | zq
        · rw [zq]; exact lEn
        · rw [zq]; exact lTi
      rw [upd_ne (Nat.ne_of_lt hBm2)]
      exact (hFp b hBm).1
  done := by
    intro X hP hw hK hCls i pn s σ H E I hFp stt hGo
    subst hP hw hK
    obtain ⟨⟨ol, hEn⟩, hTi, hDif⟩ := stt
    obtain ⟨xv, hSq, hXi⟩ := hGo
    obtain ⟨vals, hvals, p, hLen⟩ := I.tuple hSq
    obtain ⟨f0, f1, f2, f3, f4, f5⟩ := hFp it (by simp)
    have hGet := hvals.length
    have p' : s.heap.IsTuple a vals.toArray := p
    have hTy : s.TypeIs (.ref e) "enumerate" := ⟨_, hEn, rfl⟩
    unfold pyNext
    refine wpAny_bind (wpAny_attempt (wpAny_callSpecial?_slot (name := Str.ofString "__next__") hTy F.slot_enumerate_next
      (wpAny_call_entry F.slot_enumerate_next hTy F.entry_enumerate_next ?_ (F.args_enumerate_next_1 _))))
    show wpAny _ _ (field (.ref e) 2 >>= _) _ _ _
    refine wpAny_bind (wpAny_field hEn rfl (x := .ref it) rfl ?_)
    refine wpAny_bind (wpAny_nextOf_tuple_end (I.ok.hd hCls) hTi p' (by simp; omega) fun h' x he' hx' => ?_)
    obtain ⟨o, ho, hc'⟩ := hx'
    refine wpAny_bind (wpAny_isInstance (T := "StopIteration") (b := true) ⟨o, ho, hc'⟩ isSubtype_stop ?_)
    exact wpAny_pure ⟨rfl, I.turned (t' := s.toks) (fun b o hBm q => he' b o hBm q) f0 f1 f3 f4 f5⟩
  self := fun A i s Q E stt h => let ⟨⟨_, hEn⟩, _⟩ := stt; wpAny_pyIter_enum hEn h
def iEnumA (K : PySem.W.Frag) (ta : TA) : TI := fun σ H R => ta σ H fun wsv HA => ∃ a xv, wsv = [.ref a] ∧ ((SqL K HA a xv ∧ R (Ite K a) HA) ∨ (SqT K HA a xv ∧ R (IteT K a) HA))
theorem pi_enumA {X : Cx} {e : Expr} {ta : TA} {p pos tpos : Pos} {elts : List Expr} {kk : Nat} (hGo : Gl X "enumerate") (hm : X.mg "enumerate" = none) (ha : PA X [e] ta) (hs : starEach [e] X.env = [(false, eval e X.env)] := by rfl) :
    PI X (.Tuple elts kk tpos) (.Call (.Name "enumerate" p) [e] [] pos) (iEnumA X.K ta) := by
  refine ⟨fun pn s σ H R I h => ?_⟩
  refine Call_ (ld_blt I hGo hm boot_enumerate (PyProof.Rows.callWith_type1 (thn (ha.run pos pn s σ H _ I h) fun argv sA ⟨wsv, HA, J1, rel1, post1⟩ => ?_) hs rfl))
  obtain ⟨a, xv, ex, hSq⟩ := post1
  subst ex
  cases rel1 with
  | cons r rr =>
    cases rr
    cases r
    have hFin : ∀ b ∈ [sA.heap.objs.size + 1, sA.heap.objs.size], sA.heap.objs.size ≤ b := fun b hBm => by
      have ee : b = sA.heap.objs.size + 1 ∨ b = sA.heap.objs.size := by simpa using hBm
      rcases ee with zq | zq
      · rw [zq]; exact Nat.le_add_right _ _
      · rw [zq]; exact Nat.le_refl _
    rcases hSq with ⟨hSq, q⟩ | ⟨hSq, q⟩
    · obtain ⟨vals, hvals, p', hLen⟩ := J1.list hSq
      refine call_enumerate_list p'.isList fun h' hEn hTi hSz hKp => wpAny_pyIter_enum hEn ?_
      have J2 : Inv X pn σ HA { sA with heap := h' } := J1.kept (t' := sA.toks) hKp
      exact ⟨sA.heap.objs.size + 1, [sA.heap.objs.size + 1, sA.heap.objs.size], _, _, HA, rfl, J2, turn_enum a (sA.heap.objs.size + 1) sA.heap.objs.size, ⟨⟨.none, hEn⟩, hTi, Nat.succ_ne_self _⟩, fun b hBm => J1.fpOk (hFin b hBm) (J1.hok.fresh (hFin b hBm)), q⟩
    · obtain ⟨vals, hvals, p', hLen⟩ := J1.tuple hSq
      have hAl : a ≠ sA.heap.objs.size := by
        obtain ⟨o, e, _⟩ := (show sA.heap.IsTuple a vals.toArray from p')
        exact Nat.ne_of_lt (Heap.lt_size e)
      refine call_enumerate_tuple (show sA.heap.IsTuple a vals.toArray from p') fun h' hEn hTi hSz hKp => wpAny_pyIter_enum hEn ?_
      have J2 : Inv X pn σ HA { sA with heap := h' } := J1.kept (t' := sA.toks) hKp
      exact ⟨sA.heap.objs.size + 1, [sA.heap.objs.size + 1, sA.heap.objs.size], _, _, HA, rfl, J2, turn_enumT a (sA.heap.objs.size + 1) sA.heap.objs.size hAl, ⟨⟨.none, hEn⟩, hTi, Nat.succ_ne_self _⟩, fun b hBm => J1.fpOk (hFin b hBm) (J1.hok.fresh (hFin b hBm)), q⟩
theorem walk_enumT {K : PySem.W.Frag} {a : Addr} {xv : List V} : Walk (IteT K a) xv.length (fun H => SqT K H a xv) (YPair (fun i => some (.int (i : Nat))) (fun i => xv[i]?)) := by
  refine ⟨fun i _ hIx q => ⟨xv, xv[i], q, by simp [hIx]⟩, fun _ q => ⟨xv, q, Nat.le_refl _⟩, fun i H v H' _ q y => ?_⟩
  obtain ⟨T0, x, h1, h2, h3, h4⟩ := y
  exact ⟨T0, .int (i : Nat), x, h1, h2, h3, rfl, h4 xv q⟩
theorem walk_zipT {K : PySem.W.Frag} {a b : Addr} {xv yv : List V} {n : Nat} (hn : n = min xv.length yv.length) : Walk (RZ.ItzT K a b) n (fun H => SqT K H a xv ∧ SqT K H b yv) (YPair (fun i => xv[i]?) (fun i => yv[i]?)) := by
  subst hn
  refine ⟨fun i _ hIx q => ?_, fun _ q => ⟨xv, yv, q.1, q.2, by omega⟩, fun i H v H' _ q y => ?_⟩
  · have h1 : i < xv.length := by omega
    have h2 : i < yv.length := by omega
    exact ⟨xv, yv, xv[i], yv[i], q.1, q.2, by simp [h1], by simp [h2]⟩
  · obtain ⟨T0, x, zq, h1, h2, h3, h4, h5⟩ := y
    exact ⟨T0, x, zq, h1, h2, h3, h4 xv q.1, h5 yv q.2⟩
end Gm
namespace Gm
open PySem PySem.Spec PyProof.Rows L2
section
variable {X : Cx} {C f : Addr} {fd : FuncData} {ps : List Str} {CX : CXT} {k : Nat} {sp : Sp} {E : XK}
/-- an instance as the library's words want it -/
theorem inst_of {pn : List (Addr × Obj)} {σ : L2.St} {H : Hp} {s : Shared} {a dx : Addr} {fs : List (Str × V)} (I : Inv X pn σ H s) (ha : H a = some (.ins C dx fs)) : ∃ od, PySem.W.InstAt s.heap a (PySem.W.instObj C dx) C (some od) := by
  obtain ⟨mAt, J, _⟩ := ins_get I.hok ha
  obtain ⟨od, J, _⟩ := J.look
  exact ⟨od, J⟩
/-- a op b, both instances of one own class that defines op -/
def rOwnBin (C : Addr) (sp : Sp) (E : XK) : R2 := fun x y H Q => ∃ a b dx dy fs gs, x = .ref a ∧ y = .ref b ∧ H a = some (.ins C dx fs) ∧ H b = some (.ins C dy gs) ∧ sp [x, y] H Q E
theorem op_ownBin {op : Operator} (hc : PySem.W.selfFirst X.K C = true) (hs : PySem.W.findIn X.K (.ref C) (PySem.dunder op.info.2) = some (some (.ref f))) (hf : PySem.W.isFn X.K (.ref f) = true)
    (F : FnOk X.prog X.w X.K X.mg X.base CX k f fd ps sp) (hr : Room k X.A) (hb : Binds X.K fd ps []) (hx : Passes CX X E) : OpR X (binaryOp op) (rOwnBin C sp E) := by
  intro pn s σ H x y v u Q I rx ry h
  obtain ⟨a, b, dx, dy, fs, gs, rfl, rfl, ha, hb', q⟩ := h
  cases rx
  cases ry
  obtain ⟨od, J⟩ := inst_of I ha
  obtain ⟨od', J'⟩ := inst_of I hb'
  obtain ⟨m, hF⟩ := I.fr
  refine PySem.W.binop_K hF I.ok.mod.kin J J'.type hc hs hf ?_
  refine wpAny_mono (run_fn (us := [.ref a, .ref b]) (vs := [.ref a, .ref b]) F hr hb .nil hx I (.cons rfl (.cons rfl .nil)) q) (fun w s' z => ?_) fun _ _ x => x
  obtain ⟨zR, HR, IR, relZ, postZ⟩ := z
  exact SlX.cmpback relZ ⟨zR, HR, IR, relZ, postZ⟩
/-- a op b compared by an own def -/
def rOwnCmp (K : PySem.W.Frag) (C : Addr) (sp : Sp) (E : XK) : R2 := fun x y H Q => ∃ a b dx dy fs gs, x = .ref a ∧ y = .ref b ∧ H a = some (.ins C dx fs) ∧ H b = some (.ins C dy gs) ∧ sp [x, y] H Q E
theorem op_ownCmp {op : CmpOp} (hop : ∀ a b, compareOp op a b = richCompare op a b) (hs : PySem.W.findIn X.K (.ref C) (cmpInfo op).2.1 = some (some (.ref f))) (hf : PySem.W.isFn X.K (.ref f) = true)
    (F : FnOk X.prog X.w X.K X.mg X.base CX k f fd ps sp) (hr : Room k X.A) (hb : Binds X.K fd ps []) (hx : Passes CX X E) : OpR X (compareOp op) (rOwnCmp X.K C sp E) := by
  intro pn s σ H x y v u Q I rx ry h
  obtain ⟨a, b, dx, dy, fs, gs, rfl, rfl, ha, hb', q⟩ := h
  cases rx
  cases ry
  obtain ⟨od, J⟩ := inst_of I ha
  obtain ⟨od', J'⟩ := inst_of I hb'
  obtain ⟨m, hF⟩ := I.fr
  rw [hop]
  refine PySem.W.cmp_K (op := op) (tb := .ref C) hr.units0 hF I.ok.mod.kin J J'.type (by simp [PySem.W.notFirst]) hs hf ?_
  refine wpAny_mono (run_fn (us := [.ref a, .ref b]) (vs := [.ref a, .ref b]) F hr hb .nil hx I (.cons rfl (.cons rfl .nil)) q) (fun w s' z => ?_) fun _ _ x => x
  obtain ⟨zR, HR, IR, relZ, postZ⟩ := z
  exact SlX.cmpback relZ ⟨zR, HR, IR, relZ, postZ⟩
/-- -a of an own class -/
def rOwnUn (C : Addr) (sp : Sp) (E : XK) : V → Hp → VK → Prop := fun x H Q => ∃ a dx fs, x = .ref a ∧ H a = some (.ins C dx fs) ∧ sp [x] H Q E
theorem un_ownNeg (hs : PySem.W.findIn X.K (.ref C) "__neg__" = some (some (.ref f))) (hf : PySem.W.isFn X.K (.ref f) = true)
    (F : FnOk X.prog X.w X.K X.mg X.base CX k f fd ps sp) (hr : Room k X.A) (hb : Binds X.K fd ps []) (hx : Passes CX X E) : UnR X (unaryOp .USub) (rOwnUn C sp E) := by
  intro pn s σ H x v Q I rx h
  obtain ⟨a, dx, fs, rfl, ha, q⟩ := h
  cases rx
  obtain ⟨od, J⟩ := inst_of I ha
  obtain ⟨m, hF⟩ := I.fr
  exact PySem.W.ksp_neg hF I.ok.mod.kin J hs hf (run_fn (us := [.ref a]) (vs := [.ref a]) F hr hb .nil hx I (.cons rfl .nil) q)
/-- len(a) of an own class -/
def rOwnLen (C : Addr) (sp : Sp) (E : XK) : List V → Hp → VK → Prop := fun xs H Q => ∃ a dx fs, xs = [.ref a] ∧ H a = some (.ins C dx fs) ∧ sp [.ref a] H (fun v HR => ∃ n : Nat, v = .int n ∧ n < 2 ^ 62 ∧ Q (.int n) HR) E
theorem call_ownLen (hs : PySem.W.findIn X.K (.ref C) "__len__" = some (some (.ref f))) (hf : PySem.W.isFn X.K (.ref f) = true)
    (F : FnOk X.prog X.w X.K X.mg X.base CX k f fd ps sp) (hr : Room (k + 1) X.A) (hb : Binds X.K fd ps []) (hx : ∀ (H : Hp) (s : Shared) (e : Value) (s' : Shared), CX X.stack H s E e s' → False) : CallR X (.builtin "len") (rOwnLen C sp E) := by
  intro pn s σ H vs argv Q I r h
  obtain ⟨a, dx, fs, rfl, ha, q⟩ := h
  cases r with
  | cons r rRest =>
    cases rRest
    cases r
    obtain ⟨od, J⟩ := inst_of I ha
    obtain ⟨m, hF⟩ := I.fr
    refine PySem.W.len_K hF I.ok.mod.kin J hs hf ?_
    have hl := F.len _ _ _ _ q
    have relV : Vals [V.ref a] [Value.ref a] := .cons rfl .nil
    refine wpAny_call (codeAny_mono (F.run X.A.in1 X.stack s H ⟨[.ref a], []⟩ [.ref a] [.ref a] _ E hr.in1 I.env0.in1 (by
      have := hb s [.ref a] I.kIn (by simpa using hl)
      simpa using this) relV q) fun r s' hq => ?_)
    cases r with
    | error e => exact (hx _ _ _ _ hq).elim
    | ok fl =>
      cases fl with
      | ret w =>
        obtain ⟨z, HR, IR, relZ, n, ez, hn, ex⟩ := I.after hq
        subst ez
        obtain ⟨t, rfl⟩ := relZ
        exact ⟨⟨by omega, by omega⟩, .int n, HR, IR.tok _, ⟨_, rfl⟩, ex⟩
      | next => exact False.elim hq
      | brk => exact False.elim hq
      | cont => exact False.elim hq
end
/-! ### a method that may raise, what is raised wished for at the caller's slots -/
section
variable {X : Cx} {C f : Addr} {fd : FuncData} {ps : List Str} {CX : CXT} {k : Nat} {sp : Sp} {E : L2.St → XK} {o e : Expr} {es : List Expr} {m : Str} {ta : TE} {t : TA} {pos apos : Pos}
def tMethS (C : Addr) (m : Str) (sp : Sp) (E : L2.St → XK) (ta : TE) (t : TA) : TE := fun σ H Q => ta σ H fun x H1 => ∃ a dx fs, x = .ref a ∧ H1 a = some (.ins C dx fs) ∧ fs.lookup m = none ∧ t σ H1 fun vs H2 => sp (x :: vs) H2 Q (E σ)
theorem pe_methS {pl : Sem Bool} (he : PE X o ta) (c : Cls X.K C) (hm : Meth X.K C m f) (F : FnOk X.prog X.w X.K X.mg X.base CX k f fd ps sp) (hr : Room k X.A) (hb : Binds X.K fd ps []) (hx : ∀ σ, PassesAt CX X σ (E σ)) (ha : PA X (e :: es) t)
    (hStar : starEach (e :: es) X.env = (false, eval e X.env) :: starEach es X.env := by rfl) (hPlain : (backTo pos (starEach es X.env)).any (·.1) = false := by rfl)
    (hEval : eval (.Call (.Attribute o m apos) (e :: es) [] pos) X.env = (do
      let ov ← eval o X.env
      standAt apos.atName
      let (f, first) ← holding [ov] (getMethod ov m pl)
      callWith pos f first (backTo pos (starEach (e :: es) X.env)) (backToKw pos (keywordEach [] X.env))) := by rfl) :
    PE X (.Call (.Attribute o m apos) (e :: es) [] pos) (tMethS C m sp E ta t) := by
  refine ⟨fun pn s σ H Q I h => ?_⟩
  refine PySem.W.methodCall_KW (pl := pl) (thn (he.run pn s σ H _ I h) fun u s1 ⟨x, H1, J1, rx, a, dx, fs, ex, ea, l, q⟩ => ?_) hEval
  subst ex
  obtain rfl : u = Value.ref a := rx
  refine getmeth_ok J1 ea c hm l ?_
  refine PySem.W.callWith_K (first := [.ref a]) (h₀ := X.base) I.ok.mod.kin hm.kp (thn (ha.run pos pn s1 σ H1 _ J1 q) fun argv s2 ⟨vs, H2, J2, r, q2⟩ => ⟨J2.kIn, ?_⟩) hStar hPlain
  exact run_fnS (us := .ref a :: argv) (vs := .ref a :: vs) F hr hb (hx σ) J2 (.cons rfl r) q2
theorem pe_methS0 {pl : Sem Bool} (he : PE X o ta) (c : Cls X.K C) (hm : Meth X.K C m f) (F : FnOk X.prog X.w X.K X.mg X.base CX k f fd ps sp) (hr : Room k X.A) (hb : Binds X.K fd ps []) (hx : ∀ σ, PassesAt CX X σ (E σ))
    (hEval : eval (.Call (.Attribute o m apos) [] [] pos) X.env = (do
      let ov ← eval o X.env
      standAt apos.atName
      let (f, first) ← holding [ov] (getMethod ov m pl)
      callWith pos f first (backTo pos (starEach [] X.env)) (backToKw pos (keywordEach [] X.env))) := by rfl) :
    PE X (.Call (.Attribute o m apos) [] [] pos) (tMethS C m sp E ta tNil) := by
  refine ⟨fun pn s σ H Q I h => ?_⟩
  refine PySem.W.methodCall_KW (pl := pl) (thn (he.run pn s σ H _ I h) fun u s1 ⟨x, H1, J1, rx, a, dx, fs, ex, ea, l, q⟩ => ?_) hEval
  subst ex
  obtain rfl : u = Value.ref a := rx
  refine getmeth_ok J1 ea c hm l ?_
  exact PySem.W.callWith_K0 (first := [.ref a]) J1.kIn hm.kp (run_fnS (us := [.ref a]) (vs := [.ref a]) F hr hb (hx σ) J1 (.cons rfl .nil) q)
end
end Gm
/-! Data in the heap: rows of ints, rows of rows, grids; comprehensions over a walk, their new list told at once. -/
namespace Gm
open PySem PySem.Spec PyProof.Rows L2
abbrev Frag := PySem.W.Frag
/-! ### heaps -/
theorem same_upd {H : Hp} {p : Addr} {o : HO} (h : H p = none) : Same H (upd H p o) := fun b x e => by
  rw [upd_ne (ne_of_none e h)]
  exact e
theorem Same.seqT {K : Frag} {H H' : Hp} {a : Addr} {xs : List V} (e : Same H H') (h : SqT K H a xs) : SqT K H' a xs := by
  rcases h with (h | ⟨o, h⟩) | h
  · exact .inl (.inl (e _ _ h))
  · exact .inl (.inr ⟨o, e _ _ h⟩)
  · exact .inr h
/-- all but D is as it was -/
def Off (D : Addr) (H H' : Hp) : Prop := ∀ b o, b ≠ D → H b = some o → H' b = some o
theorem Same.off {D : Addr} {H H' : Hp} (e : Same H H') : Off D H H' := fun b o _ h => e b o h
theorem Off.upd {D : Addr} {H : Hp} {o : HO} : Off D H (upd H D o) := fun b u n e => by rw [upd_ne n]; exact e
theorem Off.trans {D : Addr} {H H1 H2 : Hp} (a : Off D H H1) (b : Off D H1 H2) : Off D H H2 := fun c o n h => b c o n (a c o n h)
theorem Off.same {D : Addr} {H H1 H2 : Hp} (hD : H D = none) (a : Same H H1) (b : Off D H1 H2) : Same H H2 := fun c o h => b c o (ne_of_none h hD) (a c o h)
/-- a tuple stands through what happens at a list -/
theorem sqT_off {K : Frag} {H H' : Hp} {a D : Addr} {acc xs : List V} (hD : H D = some (.lst acc)) (e : Off D H H') (h : SqT K H a xs) : SqT K H' a xs := by
  rcases h with (h | ⟨o, h⟩) | h
  · exact .inl (.inl (e _ _ (ne_of h hD (by intro z; cases z)) h))
  · exact .inl (.inr ⟨o, e _ _ (ne_of h hD (by intro z; cases z)) h⟩)
  · exact .inr h
/-! ### a list or tuple -/
def Seq (K : Frag) (H : Hp) (a : Addr) (xs : List V) : Prop := SqL K H a xs ∨ SqT K H a xs
theorem Seq.same {K : Frag} {H H' : Hp} {a : Addr} {xs : List V} (e : Same H H') (h : Seq K H a xs) : Seq K H' a xs := h.elim (fun h => .inl (Same.seq e h)) fun h => .inr (Same.seqT e h)
/-! ### rows of ints, rows of rows -/
/-- a tuple of ints -/
def TRow (K : Frag) (H : Hp) (v : V) (ns : List Int) : Prop := ∃ a, v = .ref a ∧ SqT K H a (ns.map V.int)
/-- a list or tuple of ints -/
def IRow (K : Frag) (H : Hp) (v : V) (ns : List Int) : Prop := ∃ a, v = .ref a ∧ Seq K H a (ns.map V.int)
/-- a tuple of tuples of ints -/
def TRows (K : Frag) (H : Hp) (v : V) (m : List (List Int)) : Prop := ∃ a vs, v = .ref a ∧ SqT K H a vs ∧ Paired (TRow K H) vs m
/-- lists or tuples of such -/
def IRows (K : Frag) (H : Hp) (v : V) (m : List (List Int)) : Prop := ∃ a vs, v = .ref a ∧ Seq K H a vs ∧ Paired (IRow K H) vs m
section
variable {K : Frag} {H H' : Hp} {v : V} {ns : List Int} {m : List (List Int)} {D : Addr} {acc : List V}
theorem TRow.same (e : Same H H') (h : TRow K H v ns) : TRow K H' v ns := let ⟨a, x, s⟩ := h; ⟨a, x, Same.seqT e s⟩
theorem TRow.off (hD : H D = some (.lst acc)) (e : Off D H H') (h : TRow K H v ns) : TRow K H' v ns := let ⟨a, x, s⟩ := h; ⟨a, x, sqT_off hD e s⟩
theorem IRow.same (e : Same H H') (h : IRow K H v ns) : IRow K H' v ns := let ⟨a, x, s⟩ := h; ⟨a, x, s.same e⟩
theorem TRow.row (h : TRow K H v ns) : IRow K H v ns := let ⟨a, x, s⟩ := h; ⟨a, x, .inr s⟩
theorem TRows.same (e : Same H H') (h : TRows K H v m) : TRows K H' v m := let ⟨a, vs, x, s, p⟩ := h; ⟨a, vs, x, Same.seqT e s, L2.Paired.mapP p fun _ _ => TRow.same e⟩
theorem TRows.off (hD : H D = some (.lst acc)) (e : Off D H H') (h : TRows K H v m) : TRows K H' v m := let ⟨a, vs, x, s, p⟩ := h; ⟨a, vs, x, sqT_off hD e s, L2.Paired.mapP p fun _ _ => TRow.off hD e⟩
theorem IRows.same (e : Same H H') (h : IRows K H v m) : IRows K H' v m := let ⟨a, vs, x, s, p⟩ := h; ⟨a, vs, x, s.same e, L2.Paired.mapP p fun _ _ => IRow.same e⟩
theorem TRows.rows (h : TRows K H v m) : IRows K H v m := let ⟨a, vs, x, s, p⟩ := h; ⟨a, vs, x, .inr s, L2.Paired.mapP p fun _ _ => TRow.row⟩
end
theorem Paired.getL {α β : Type} {F : α → β → Prop} : ∀ {l₁ : List α} {l₂ : List β} {i : Nat} {b : β}, Paired F l₁ l₂ → l₂[i]? = some b → ∃ a, l₁[i]? = some a ∧ F a b
  | _, _, _, _, .nil, e => by simp at e
  | _, _, 0, _, .cons r _, e => by simp at e; subst e; exact ⟨_, rfl, r⟩
  | _, _, i + 1, b, .cons _ t, e => by
    obtain ⟨u, h1, h2⟩ := Paired.getL (i := i) (b := b) t (by simpa using e)
    exact ⟨u, by simpa using h1, h2⟩
theorem Paired.getR {α β : Type} {F : α → β → Prop} : ∀ {l₁ : List α} {l₂ : List β} {i : Nat} {a : α}, Paired F l₁ l₂ → l₁[i]? = some a → ∃ b, l₂[i]? = some b ∧ F a b
  | _, _, _, _, .nil, e => by simp at e
  | _, _, 0, _, .cons r _, e => by simp at e; subst e; exact ⟨_, rfl, r⟩
  | _, _, i + 1, a, .cons _ t, e => by
    obtain ⟨u, h1, h2⟩ := Paired.getR (i := i) (a := a) t (by simpa using e)
    exact ⟨u, by simpa using h1, h2⟩
theorem Paired.mapR {α β γ : Type} {F : α → β → Prop} {G : α → γ → Prop} (f : β → γ) (h : ∀ a b, F a b → G a (f b)) : ∀ {l₁ : List α} {l₂ : List β}, Paired F l₁ l₂ → Paired G l₁ (l₂.map f)
  | _, _, .nil => .nil
  | _, _, .cons r t => .cons (h _ _ r) (Paired.mapR f h t)
theorem Paired.swap {α β : Type} {F : α → β → Prop} : ∀ {l₁ : List α} {l₂ : List β}, Paired F l₁ l₂ → Paired (fun b a => F a b) l₂ l₁
  | _, _, .nil => .nil
  | _, _, .cons r t => .cons r (Paired.swap t)
/-- ints alone -/
theorem paired_ints : ∀ {vs : List V} {ns : List Int}, Paired (fun v n => v = V.int n) vs ns → vs = ns.map V.int
  | _, _, .nil => rfl
  | _, _, .cons r t => by rw [List.map_cons, ← r, ← paired_ints t]
theorem paired_bls : ∀ {vs : List V} {ns : List Bool}, Paired (fun v n => v = V.bl n) vs ns → vs = ns.map V.bl
  | _, _, .nil => rfl
  | _, _, .cons r t => by rw [List.map_cons, ← r, ← paired_bls t]
theorem ints_get {ns : List Int} {i : Nat} {v : V} (h : (ns.map V.int)[i]? = some v) : ∃ n, ns[i]? = some n ∧ v = .int n := by
  rw [List.getElem?_map] at h
  cases e : ns[i]? with
  | none => rw [e] at h; cases h
  | some n => rw [e] at h; exact ⟨n, rfl, (Option.some.inj h).symm⟩
theorem ints_at {ns : List Int} {i : Nat} {n : Int} (h : ns[i]? = some n) : (ns.map V.int)[i]? = some (.int n) := by
  rw [List.getElem?_map, h]
  rfl
/-! ### walks of a list or tuple: one reading for both -/
/-- R of every walk of the n items told by Y, while a's content stands -/
def Walked (n : Nat) (Y : Nat → Hp → V → Hp → Prop) (as : List Addr) (R : It → Hp → Prop) (H1 : Hp) : Prop := ∀ (J : It) (G : Hp → Prop), Walk J n G Y → (∀ H, (∀ a ∈ as, ∀ o, H1 a = some o → H a = some o) → G H) → R J H1
theorem sqL_at {K : Frag} {H H' : Hp} {a : Addr} {xs : List V} (h : SqL K H a xs) (e : ∀ o, H a = some o → H' a = some o) : SqL K H' a xs := by
  rcases h with (h | ⟨o, h⟩) | h
  · exact .inl (.inl (e _ h))
  · exact .inl (.inr ⟨o, e _ h⟩)
  · exact .inr h
theorem sqT_at {K : Frag} {H H' : Hp} {a : Addr} {xs : List V} (h : SqT K H a xs) (e : ∀ o, H a = some o → H' a = some o) : SqT K H' a xs := by
  rcases h with (h | ⟨o, h⟩) | h
  · exact .inl (.inl (e _ h))
  · exact .inl (.inr ⟨o, e _ h⟩)
  · exact .inr h
section
variable {X : Cx} {tg e e2 : Expr} {te : TE} {ta : TA} {p pos tpos : Pos} {elts : List Expr} {kk : Nat}
def iSeq (K : Frag) (tl : TE) : TI := fun σ H R => tl σ H fun x H1 => ∃ a xs, x = .ref a ∧ Seq K H1 a xs ∧ Walked xs.length (YAt xs) [a] R H1
theorem pi_seq (hl : PE X e te) : PI X tg e (iSeq X.K te) := by
  refine ⟨fun pn s σ H R I h => ?_⟩
  refine thn (hl.run pn s σ H _ I h) fun v s1 ⟨x, H1, J1, rel1, post1⟩ => ?_
  obtain ⟨a, xs, e, hq, q⟩ := post1
  subst e
  cases rel1
  have fin : ∀ b ∈ [s1.heap.objs.size], FpOk X pn H1 b := fun b hb => by
    have e : b = s1.heap.objs.size := by simpa using hb
    subst e
    exact J1.fpOk (Nat.le_refl _) (J1.hok.fresh (Nat.le_refl _))
  rcases hq with hq | hq
  · obtain ⟨vals, hvals, p, hLen⟩ := J1.list hq
    refine wpAny_pyIter_list p.isList ?_
    exact ⟨s1.heap.objs.size, [s1.heap.objs.size], _, _, H1, rfl, J1.kept (t' := s1.toks) fun b o e => Heap.get?_push_of_some _ e, turn_list a _, ⟨_, Heap.get?_push_size _ rfl, rfl, rfl⟩, fin, q _ _ walk_list fun H e => sqL_at hq (e a (by simp))⟩
  · obtain ⟨vals, hvals, p, hLen⟩ := J1.tuple hq
    refine wpAny_pyIter_tuple (show s1.heap.IsTuple a vals.toArray from p) ?_
    exact ⟨s1.heap.objs.size, [s1.heap.objs.size], _, _, H1, rfl, J1.kept (t' := s1.toks) fun b o e => Heap.get?_push_of_some _ e, turn_tuple a _, ⟨_, Heap.get?_push_size _ rfl, rfl, rfl⟩, fin, q _ _ walk_tup fun H e => sqT_at hq (e a (by simp))⟩
def iEnumS (K : Frag) (ta : TA) : TI := fun σ H R => ta σ H fun vs H1 => ∃ a xs, vs = [.ref a] ∧ Seq K H1 a xs ∧ Walked xs.length (YPair (fun i => some (.int (i : Nat))) (fun i => xs[i]?)) [a] R H1
theorem pi_enumS (hg : Gl X "enumerate") (hm : X.mg "enumerate" = none) (ha : PA X [e] ta) (hs : starEach [e] X.env = [(false, eval e X.env)] := by rfl) :
    PI X (.Tuple elts kk tpos) (.Call (.Name "enumerate" p) [e] [] pos) (iEnumS X.K ta) := by
  refine ⟨fun pn s σ H R I h => ?_⟩
  refine Call_ (ld_blt I hg hm boot_enumerate (PyProof.Rows.callWith_type1 (thn (ha.run pos pn s σ H _ I h) fun us s1 ⟨vs, H1, J1, rel1, post1⟩ => ?_) hs rfl))
  obtain ⟨a, xs, ex, hq, q⟩ := post1
  subst ex
  cases rel1 with
  | cons r rr =>
    cases rr
    cases r
    have fin : ∀ b ∈ [s1.heap.objs.size + 1, s1.heap.objs.size], s1.heap.objs.size ≤ b := fun b hb => by
      have ee : b = s1.heap.objs.size + 1 ∨ b = s1.heap.objs.size := by simpa using hb
      rcases ee with z | z
      · rw [z]; exact Nat.le_add_right _ _
      · rw [z]; exact Nat.le_refl _
    rcases hq with hq | hq
    · obtain ⟨vals, hvals, p', hLen⟩ := J1.list hq
      refine call_enumerate_list p'.isList fun h' he hit hSz hk => wpAny_pyIter_enum he ?_
      have J2 : Inv X pn σ H1 { s1 with heap := h' } := J1.kept (t' := s1.toks) hk
      exact ⟨s1.heap.objs.size + 1, [s1.heap.objs.size + 1, s1.heap.objs.size], _, _, H1, rfl, J2, turn_enum a (s1.heap.objs.size + 1) s1.heap.objs.size, ⟨⟨.none, he⟩, hit, Nat.succ_ne_self _⟩, fun b hb => J1.fpOk (fin b hb) (J1.hok.fresh (fin b hb)), q _ _ walk_enum fun H e => sqL_at hq (e a (by simp))⟩
    · obtain ⟨vals, hvals, p', hLen⟩ := J1.tuple hq
      have hal : a ≠ s1.heap.objs.size := by
        obtain ⟨o, e, _⟩ := (show s1.heap.IsTuple a vals.toArray from p')
        exact Nat.ne_of_lt (Heap.lt_size e)
      refine call_enumerate_tuple (show s1.heap.IsTuple a vals.toArray from p') fun h' he hit hSz hk => wpAny_pyIter_enum he ?_
      have J2 : Inv X pn σ H1 { s1 with heap := h' } := J1.kept (t' := s1.toks) hk
      exact ⟨s1.heap.objs.size + 1, [s1.heap.objs.size + 1, s1.heap.objs.size], _, _, H1, rfl, J2, turn_enumT a (s1.heap.objs.size + 1) s1.heap.objs.size hal, ⟨⟨.none, he⟩, hit, Nat.succ_ne_self _⟩, fun b hb => J1.fpOk (fin b hb) (J1.hok.fresh (fin b hb)), q _ _ walk_enumT fun H e => sqT_at hq (e a (by simp))⟩
end
/-! ### comprehensions -/
/-- [e for x in .. if p]: the new list at D holds, for the turns with p, values in the relation Rel -/
theorem lc_gen {J : It} {n : Nat} {G : Hp → Prop} {Y : Nat → Hp → V → Hp → Prop} (w : Walk J n G Y) {g : TG} {tt : TT} {te : TE} {vs : List Nat} {σ : L2.St} {H1 : Hp} {D : Addr} {Qd : Hp → Prop}
    (hD : H1 D = none) (hn : n ≤ 1000) (hG : ∀ H, Same H1 H → G H) (p : Nat → Bool) (Rel : Nat → V → Hp → Prop)
    (mono : ∀ i v H H' acc, H D = some (.lst acc) → Off D H H' → Rel i v H → Rel i v H')
    (step : ∀ (i : Nat) (x : V) (H H' : Hp) (acc : List V) (Ko : VK) (Kn : Hp → Prop), i < n → Same H1 H → H D = some (.lst acc) → Y i H x H' → (p i = true → ∀ y H4, Same H H4 → Rel i y H4 → Ko y H4) → (p i = false → ∀ H3, Same H H3 → Kn H3) →
      g x (wipe σ vs) H' fun σ2 H2 => wipe σ2 vs = wipe σ vs ∧ tt σ2 H2 fun b H3 => if b = true then te σ2 H3 Ko else Kn H3)
    (done : ∀ H l, Same H1 H → H D = some (.lst l) → Paired (fun i v => Rel i v H) ((List.range n).filter p) l → Qd H) :
    ∃ W : Nat → Nat → Hp → Prop, (∃ m, W 0 m (upd H1 D (.lst []))) ∧ ∀ i m H, W i m H →
      (J.stop i H ∧ Qd H) ∨ (J.go i H ∧ ∃ Nx : Hp → Prop, (∀ H', Nx H' → ∃ m', m' < m ∧ W (i + 1) m' H') ∧ ∀ x H', J.yld i H x H' → g x (wipe σ vs) H' fun σ2 H2 => wipe σ2 vs = wipe σ vs ∧ tt σ2 H2 fun b H3 =>
        if b = true then te σ2 H3 fun y H4 => ∃ acc, H4 D = some (.lst acc) ∧ acc.length < sizeLine ∧ Nx (upd H4 D (.lst (acc ++ [y]))) else Nx H3) := by
  refine lc_it w (Pv := fun i H => Same H1 H ∧ ∃ l, H D = some (.lst l) ∧ Paired (fun i v => Rel i v H) ((List.range i).filter p) l) ?_ (fun i H _ h => hG H h.1) ?_ (fun H h => let ⟨s, l, e, q⟩ := h; done H l s e q)
  · exact ⟨same_upd hD, [], upd_same, .nil⟩
  · rintro i x H H' hi ⟨s, l, e, q⟩ y
    have hl : l.length ≤ i := by
      have := q.length
      have h2 : ((List.range i).filter p).length ≤ (List.range i).length := List.length_filter_le _ _
      rw [List.length_range] at h2
      omega
    refine step i x H H' l _ _ hi s e y (fun hp y H4 s4 r => ?_) fun hp H3 s3 => ?_
    · refine ⟨l, s4 _ _ e, small1000 (by omega), fun c o h => ?_, l ++ [y], upd_same, ?_⟩
      · exact Off.upd c o (ne_of_none h hD) (s4 _ _ (s _ _ h))
      · rw [List.range_succ, List.filter_append, List.filter_cons, List.filter_nil, if_pos hp]
        refine Paired.snoc (L2.Paired.mapP q fun j v r => mono j v H _ l e ?_ r) (mono i y H4 _ l (s4 _ _ e) Off.upd r)
        exact Off.trans (Same.off s4) Off.upd
    · refine ⟨fun c o h => s3 _ _ (s _ _ h), l, s3 _ _ e, ?_⟩
      rw [List.range_succ, List.filter_append, List.filter_cons, List.filter_nil, if_neg (by rw [hp]; exact Bool.false_ne_true), List.append_nil]
      exact L2.Paired.mapP q fun j v r => mono j v H _ l e (Same.off s3) r
/-- without a test -/
theorem lc_all {J : It} {n : Nat} {G : Hp → Prop} {Y : Nat → Hp → V → Hp → Prop} (w : Walk J n G Y) {g : TG} {te : TE} {vs : List Nat} {σ : L2.St} {H1 : Hp} {D : Addr} {Qd : Hp → Prop}
    (hD : H1 D = none) (hn : n ≤ 1000) (hG : ∀ H, Same H1 H → G H) (Rel : Nat → V → Hp → Prop)
    (mono : ∀ i v H H' acc, H D = some (.lst acc) → Off D H H' → Rel i v H → Rel i v H')
    (step : ∀ (i : Nat) (x : V) (H H' : Hp) (acc : List V) (Ko : VK), i < n → Same H1 H → H D = some (.lst acc) → Y i H x H' → (∀ y H4, Same H H4 → Rel i y H4 → Ko y H4) →
      g x (wipe σ vs) H' fun σ2 H2 => wipe σ2 vs = wipe σ vs ∧ te σ2 H2 Ko)
    (gm : ∀ x σ1 H (Q Q' : L2.St → Hp → Prop), (∀ σ2 H2, Q σ2 H2 → Q' σ2 H2) → g x σ1 H Q → g x σ1 H Q')
    (done : ∀ H l, Same H1 H → H D = some (.lst l) → Paired (fun i v => Rel i v H) (List.range n) l → Qd H) :
    ∃ W : Nat → Nat → Hp → Prop, (∃ m, W 0 m (upd H1 D (.lst []))) ∧ ∀ i m H, W i m H →
      (J.stop i H ∧ Qd H) ∨ (J.go i H ∧ ∃ Nx : Hp → Prop, (∀ H', Nx H' → ∃ m', m' < m ∧ W (i + 1) m' H') ∧ ∀ x H', J.yld i H x H' → g x (wipe σ vs) H' fun σ2 H2 => wipe σ2 vs = wipe σ vs ∧ tYes σ2 H2 fun b H3 =>
        if b = true then te σ2 H3 fun y H4 => ∃ acc, H4 D = some (.lst acc) ∧ acc.length < sizeLine ∧ Nx (upd H4 D (.lst (acc ++ [y]))) else Nx H3) := by
  refine lc_gen w hD hn hG (fun _ => true) Rel mono (fun i x H H' acc Ko Kn hi s e y k _ => ?_) fun H l s e q => done H l s e (by rw [List.filter_eq_self.mpr (fun _ _ => rfl)] at q; exact q)
  refine gm _ _ _ _ _ (fun σ2 H2 q => ⟨q.1, ?_⟩) (step i x H H' acc Ko hi s e y (k rfl))
  exact (show if true = true then te σ2 H2 Ko else Kn H2 from iteT q.2)
theorem gm_name {j : Nat} : ∀ (x : V) (σ1 : L2.St) (H : Hp) (Q Q' : L2.St → Hp → Prop), (∀ σ2 H2, Q σ2 H2 → Q' σ2 H2) → gName j x σ1 H Q → gName j x σ1 H Q' := fun _ _ _ _ _ h q => h _ _ q
theorem gm_pair {K : Frag} {i j : Nat} : ∀ (x : V) (σ1 : L2.St) (H : Hp) (Q Q' : L2.St → Hp → Prop), (∀ σ2 H2, Q σ2 H2 → Q' σ2 H2) → gTup K 2 (gCons (gName i) (gCons (gName j) gNil)) x σ1 H Q → gTup K 2 (gCons (gName i) (gCons (gName j) gNil)) x σ1 H Q' := by
  rintro x σ1 H Q Q' h ⟨a, xs, e, s, l, v, r, e1, v', r', e2, e3, q⟩
  exact ⟨a, xs, e, s, l, v, r, e1, v', r', e2, e3, h _ _ q⟩
/-- a pair unpacked into two slots -/
theorem g_pair {K : Frag} {i j : Nat} {T : Addr} {x y : V} {σ : L2.St} {H : Hp} {Q : L2.St → Hp → Prop} (hn : H T = none) (q : Q ((σ.set i (some x)).set j (some y)) (upd H T (.tup [x, y]))) : gTup K 2 (gCons (gName i) (gCons (gName j) gNil)) (.ref T) σ (upd H T (.tup [x, y])) Q :=
  ⟨T, [x, y], rfl, .inl (.inl upd_same), rfl, x, [y], rfl, y, [], rfl, rfl, q⟩
/-! ### list or tuple: slices -/
section
variable {X : Cx}
def rSlS (K : Frag) : V → Option Int → Option Int → Hp → VK → Prop := fun x lo hi H Q => rSlL K x lo hi H Q ∨ rSlT K x lo hi H Q
theorem sl_seq : SlR X (rSlS X.K) := sl_list.or sl_tup
end
end Gm
namespace Gm
open PySem PySem.Spec PyProof.Rows L2
theorem rIx_seq {K : Frag} {H : Hp} {a : Addr} {xs : List V} {i : Int} {v : V} {Q : VK} (hs : Seq K H a xs) (e : atI xs i = some v) (q : Q v H) : rIx K (.ref a) (.int i) H Q :=
  hs.elim (fun h => .inl ⟨a, xs, i, v, rfl, rfl, h, e, q⟩) fun h => .inr (.inl ⟨a, xs, i, v, rfl, rfl, h, e, q⟩)
end Gm
namespace Gm
open PySem PySem.Spec PyProof.Rows L2
/-! ### the layer's rules with the written part named (for a comprehension's block) -/
section
variable {X : Cx}
theorem ixS (K : Frag) (hK : X.K = K) : IxR X (rIx K) := by subst hK; exact ix_seq
theorem ixT (K : Frag) (hK : X.K = K) : IxR X (rIxT K) := by subst hK; exact ix_tup
theorem ixL (K : Frag) (hK : X.K = K) : IxR X (rIxL K) := by subst hK; exact ix_list
def rLen (K : Frag) : List V → Hp → VK → Prop := fun xs H Q => ∃ p ys, xs = [.ref p] ∧ Seq K H p ys ∧ Q (.int ys.length) H
theorem lenS (K : Frag) (hK : X.K = K) : CallR X (.builtin "len") (rLen K) := by subst hK; exact call_len_seq
theorem sumK (K : Frag) (hK : X.K = K) (hc : X.calm = true) : CallR X (.builtin "sum") (rSum K) := by subst hK; exact cr_sum hc
theorem allK (K : Frag) (hK : X.K = K) (hc : X.calm = true) : CallR X (.builtin "all") (rAll K) := by subst hK; exact cr_all hc
theorem isiK (K : Frag) (hK : X.K = K) : CallR X (.builtin "isinstance") (rIsi K) := by subst hK; exact call_isi
theorem isiTK (K : Frag) (hK : X.K = K) : CallR X (.builtin "isinstance") (rIsiT K) := by subst hK; exact call_isiT
def rTupleOf (K : Frag) : List V → Hp → VK → Prop := fun xs H Q => ∃ p ys, xs = [.ref p] ∧ ((SqL K H p ys ∧ ∀ l, H l = none → Q (.ref l) (upd H l (.tup ys))) ∨ (SqT K H p ys ∧ Q (.ref p) H))
theorem tupK (K : Frag) (hK : X.K = K) : CallR X (.type "tuple") (rTupleOf K) := by subst hK; exact call_tuple_of
def rListOf (K : Frag) : List V → Hp → VK → Prop := fun xs H Q => ∃ p ys, xs = [.ref p] ∧ Seq K H p ys ∧ ∀ l, H l = none → Q (.ref l) (upd H l (.lst ys))
theorem listK (K : Frag) (hK : X.K = K) : CallR X (.type "list") (rListOf K) := by subst hK; exact call_list_of
theorem catK (K : Frag) (hK : X.K = K) : OpR X (binaryOp .Add) (rCatA K) := by subst hK; exact op_catA
theorem slTK (K : Frag) (hK : X.K = K) : SlR X (rSlA K) := by subst hK; exact sl_tupA
theorem slLK (K : Frag) (hK : X.K = K) : SlR X (rSlL K) := by subst hK; exact sl_list
theorem slSK (K : Frag) (hK : X.K = K) : SlR X (rSlS K) := by subst hK; exact sl_seq
theorem eqDK (K : Frag) (hK : X.K = K) {k : Nat} (hr : Room k X.A) : OpR X (compareOp .Eq) (rEqD K) := by subst hK; exact op_eqD hr.units
theorem neDK (K : Frag) (hK : X.K = K) {k : Nat} (hr : Room k X.A) : OpR X (compareOp .NotEq) (rNeD K) := by subst hK; exact op_neD hr.units
variable {e e2 tg : Expr} {te ta : TE} {f : Str} {p pos tpos : Pos} {elts : List Expr} {kk : Nat} {tas : TA}
theorem fldK (K : Frag) (hK : X.K = K) (he : PE X e ta) (hb : attributeBase e f X.env (eval e X.env) = eval e X.env) : PE X (.Attribute e f pos) (tFld K ta f) := by subst hK; exact pe_fld he hb
theorem piS (K : Frag) (hK : X.K = K) (he : PE X e te) : PI X tg e (iSeq K te) := by subst hK; exact pi_seq he
/-- a tuple alone -/
theorem piEnum (K : Frag) (hK : X.K = K) (hg : Gl X "enumerate") (hm : X.mg "enumerate" = none) (ha : PA X [e] tas) (hs : starEach [e] X.env = [(false, eval e X.env)] := by rfl) :
    PI X (.Tuple elts kk tpos) (.Call (.Name "enumerate" p) [e] [] pos) (iEnumS K tas) := by subst hK; exact pi_enumS hg hm ha hs
def iZipT (K : Frag) (ta : TA) : TI := fun σ H R => ta σ H fun vs H1 => ∃ a b xs ys, vs = [.ref a, .ref b] ∧ SqT K H1 a xs ∧ SqT K H1 b ys ∧ R (RZ.ItzT K a b) H1
theorem piZipT (K : Frag) (hK : X.K = K) (hg : Gl X "zip") (hm : X.mg "zip" = none) (ha : PA X [e, e2] tas)
    (mono : ∀ σ H (Q Q' : List V → Hp → Prop), (∀ vs H, Q vs H → Q' vs H) → tas σ H Q → tas σ H Q')
    (hs : starEach [e, e2] X.env = (false, eval e X.env) :: starEach [e2] X.env := by rfl) (hpl : (backTo pos (starEach [e2] X.env)).any (·.1) = false := by rfl) :
    PI X (.Tuple elts kk tpos) (.Call (.Name "zip" p) [e, e2] [] pos) (iZipT K tas) := by
  subst hK
  refine ⟨fun pn s σ H R I h => (RZ.pi_zipA hg hm ha hs hpl).run pn s σ H R I (mono σ H _ _ (fun vs H1 q => ?_) h)⟩
  obtain ⟨a, b, xs, ys, e, h1, h2, q⟩ := q
  exact ⟨a, b, xs, ys, e, .inr ⟨h1, h2, q⟩⟩
end
end Gm
namespace Gm
open PySem PySem.Spec PyProof.Rows L2
theorem paired_true : ∀ {is : List Nat} {l : List V}, Paired (fun (_ : Nat) v => v = V.bl true) is l → l = (List.replicate l.length true).map V.bl
  | _, _, .nil => rfl
  | _, _, .cons r t => by
    rw [List.length_cons, List.replicate_succ, List.map_cons, ← r, ← paired_true t]
theorem all_true (n : Nat) : (List.replicate n true).all id = true := by
  induction n with
  | zero => rfl
  | succ n ih => rw [List.replicate_succ, List.all_cons, ih] <;> rfl
/-- values in relation with the items of a list, by place -/
theorem paired_at {α : Type} {F : V → α → Prop} {m : List α} : ∀ {n : Nat} {l : List V}, n = m.length → Paired (fun (i : Nat) v => ∃ x, m[i]? = some x ∧ F v x) (List.range n) l → Paired F l m := by
  intro n l hn h
  subst hn
  have key : ∀ (is : List Nat) (l : List V) (xs : List α), Paired (fun (i : Nat) v => ∃ x, m[i]? = some x ∧ F v x) is l → is.map (fun i => m[i]?) = xs.map some → Paired F l xs := by
    intro is l xs h
    induction h generalizing xs with
    | nil =>
      intro e
      cases xs with
      | nil => exact .nil
      | cons a b => cases e
    | cons r t ih =>
      intro e
      cases xs with
      | nil => cases e
      | cons a b =>
        rw [List.map_cons, List.map_cons] at e
        obtain ⟨x, ex, fx⟩ := r
        have e1 := (List.cons.inj e).1
        have e2 := (List.cons.inj e).2
        rw [ex] at e1
        cases e1
        exact .cons fx (ih b e2)
  refine key _ l m h ?_
  apply List.ext_getElem?
  intro i
  rw [List.getElem?_map, List.getElem?_map]
  by_cases hi : i < m.length
  · rw [List.getElem?_range hi, List.getElem?_eq_getElem hi]
    exact congrArg some (List.getElem?_eq_getElem hi)
  · rw [List.getElem?_eq_none (by simpa using hi), List.getElem?_eq_none (by omega)]
    rfl
end Gm
namespace Gm
open PySem PySem.Spec PyProof.Rows L2
section
variable {K : Frag} {H : Hp} {a b : Addr} {xs ys : List V} {Q : VK}
theorem cut_take (xs : List V) (j : Nat) : cutV xs none (some (j : Int)) = xs.take j := by
  unfold cutV
  rw [HT.sIx_none, HT.sIx_nat, List.drop_zero, Nat.sub_zero]
  by_cases h : j ≤ xs.length
  · rw [Nat.min_eq_left h]
  · rw [Nat.min_eq_right (by omega), List.take_length, List.take_of_length_le (by omega)]
theorem cut_drop (xs : List V) (j : Nat) : cutV xs (some (j : Int)) none = xs.drop j := by
  unfold cutV
  rw [HT.sIx_none, HT.sIx_nat]
  by_cases h : j ≤ xs.length
  · rw [Nat.min_eq_left h, List.take_of_length_le (by rw [List.length_drop]; exact Nat.le_refl _)]
  · rw [Nat.min_eq_right (by omega), Nat.sub_self, List.take_zero, List.drop_of_length_le (by omega)]
theorem slA_take (h : SqT K H a xs) (j : Nat) (q : ∀ p H', Same H H' → SqT K H' p (xs.take j) → Q (.ref p) H') : rSlA K (.ref a) none (some (j : Int)) H Q := by
  refine ⟨a, xs, rfl, h, fun e => ?_, fun _ p np => ?_⟩
  · have e2 : min j xs.length = xs.length := by
      have := e.2
      rw [HT.sIx_nat] at this
      exact this
    refine q a H (Same.refl _) ?_
    rw [List.take_of_length_le (by omega)]
    exact h
  · exact q p _ (same_upd np) (.inl (.inl (by rw [upd_same, cut_take])))
theorem slA_drop (h : SqT K H a xs) (j : Nat) (q : ∀ p H', Same H H' → SqT K H' p (xs.drop j) → Q (.ref p) H') : rSlA K (.ref a) (some (j : Int)) none H Q := by
  refine ⟨a, xs, rfl, h, fun e => ?_, fun _ p np => ?_⟩
  · have e2 : min j xs.length = 0 := by
      have := e.1
      rw [HT.sIx_nat] at this
      exact this
    refine q a H (Same.refl _) ?_
    by_cases hj : j = 0
    · rw [hj]
      exact h
    · have : xs = [] := List.eq_nil_of_length_eq_zero (by omega)
      rw [this] at h ⊢
      simpa using h
  · exact q p _ (same_upd np) (.inl (.inl (by rw [upd_same, cut_drop])))
theorem catA (hx : SqT K H a xs) (hy : SqT K H b ys) (hl : xs.length + ys.length ≤ 1000) (q : ∀ p H', Same H H' → SqT K H' p (xs ++ ys) → Q (.ref p) H') : rCatA K (.ref a) (.ref b) H Q := by
  refine ⟨a, b, xs, ys, rfl, rfl, hx, hy, Nat.le_of_lt (small1000 hl), fun e => ?_, fun _ e => ?_, fun _ _ p np => ?_⟩
  · subst e
    exact q b H (Same.refl _) hy
  · subst e
    refine q a H (Same.refl _) ?_
    rw [List.append_nil]
    exact hx
  · exact q p _ (same_upd np) (.inl (.inl upd_same))
end
/-- lists of ints, apart from D: a list of such lists is a matrix -/
theorem lists_rows {K : Frag} {H : Hp} {D : Addr} {l : List V} {m : List (List Int)} {n : Nat} (hn : n = m.length) (e : H D = some (.lst l)) (h : Paired (fun (i : Nat) v => ∃ p, v = V.ref p ∧ p ≠ D ∧ H p = some (.lst ((m.getD i []).map V.int))) (List.range n) l) : IRows K H (.ref D) m := by
  refine ⟨D, l, rfl, .inl (.inl (.inl e)), paired_at (m := m) hn ?_⟩
  have key : ∀ (is : List Nat) (l : List V), (∀ i ∈ is, i < m.length) → Paired (fun (i : Nat) v => ∃ p, v = V.ref p ∧ p ≠ D ∧ H p = some (.lst ((m.getD i []).map V.int))) is l → Paired (fun (i : Nat) v => ∃ x, m[i]? = some x ∧ IRow K H v x) is l := by
    intro is l hi h
    induction h with
    | nil => exact .nil
    | cons r t ih =>
      obtain ⟨p, rfl, _, e⟩ := r
      have h1 := hi _ (List.mem_cons_self ..)
      refine .cons ⟨_, List.getElem?_eq_getElem h1, p, rfl, .inl (.inl (.inl ?_))⟩ (ih fun i h => hi i (List.mem_cons_of_mem _ h))
      rw [List.getD_eq_getElem?_getD, List.getElem?_eq_getElem h1] at e
      exact e
  exact key _ _ (fun i h => by rw [List.mem_range] at h; omega) h
theorem lists_mono {D : Addr} {f : Nat → List Int} (i : Nat) (v : V) (H H' : Hp) (acc : List V) (_ : H D = some (.lst acc)) (o : Off D H H') (h : ∃ p, v = V.ref p ∧ p ≠ D ∧ H p = some (.lst ((f i).map V.int))) : ∃ p, v = V.ref p ∧ p ≠ D ∧ H' p = some (.lst ((f i).map V.int)) :=
  let ⟨p, e, n, h⟩ := h
  ⟨p, e, n, o _ _ n h⟩
/-- ints by place -/
theorem ints_list {l : List V} {ns : List Int} {n : Nat} (hn : n = ns.length) (h : Paired (fun (i : Nat) v => ∃ x, ns[i]? = some x ∧ v = V.int x) (List.range n) l) : l = ns.map V.int := paired_ints (paired_at hn h)
end Gm
namespace Gm
open PySem PySem.Spec PyProof.Rows L2
theorem tyes_of {σ : L2.St} {H : Hp} {q : Hp → Prop} {r : Hp → Prop} (h : q H) : tYes σ H fun b H3 => if b = true then q H3 else r H3 := iteT (A := q H) (B := r H) h
/-- a comprehension whose turns may change other objects: A is kept, the values are told without the heap -/
theorem lc_val {J : It} {n : Nat} {G : Hp → Prop} {Y : Nat → Hp → V → Hp → Prop} (w : Walk J n G Y) {g : TG} {te : TE} {vs : List Nat} {σ : L2.St} {H1 : Hp} {D : Addr} {Qd : Hp → Prop}
    (hn : n ≤ 1000) (A : Hp → Prop) (A0 : A (upd H1 D (.lst []))) (hG : ∀ H, A H → G H) (Au : ∀ H acc acc', A H → H D = some (.lst acc) → A (upd H D (.lst acc'))) (Rel : Nat → V → Prop)
    (step : ∀ (i : Nat) (x : V) (H H' : Hp) (acc : List V) (Ko : VK), i < n → A H → H D = some (.lst acc) → Y i H x H' → (∀ y H4, A H4 → H4 D = some (.lst acc) → Rel i y → Ko y H4) →
      g x (wipe σ vs) H' fun σ2 H2 => wipe σ2 vs = wipe σ vs ∧ te σ2 H2 Ko)
    (gm : ∀ (x : V) (σ1 : L2.St) (H : Hp) (Q Q' : L2.St → Hp → Prop), (∀ σ2 H2, Q σ2 H2 → Q' σ2 H2) → g x σ1 H Q → g x σ1 H Q')
    (done : ∀ H l, A H → H D = some (.lst l) → Paired (fun i v => Rel i v) (List.range n) l → Qd H) :
    ∃ W : Nat → Nat → Hp → Prop, (∃ m, W 0 m (upd H1 D (.lst []))) ∧ ∀ i m H, W i m H →
      (J.stop i H ∧ Qd H) ∨ (J.go i H ∧ ∃ Nx : Hp → Prop, (∀ H', Nx H' → ∃ m', m' < m ∧ W (i + 1) m' H') ∧ ∀ x H', J.yld i H x H' → g x (wipe σ vs) H' fun σ2 H2 => wipe σ2 vs = wipe σ vs ∧ tYes σ2 H2 fun b H3 =>
        if b = true then te σ2 H3 fun y H4 => ∃ acc, H4 D = some (.lst acc) ∧ acc.length < sizeLine ∧ Nx (upd H4 D (.lst (acc ++ [y]))) else Nx H3) := by
  refine lc_it w (Pv := fun i H => A H ∧ ∃ l, H D = some (.lst l) ∧ Paired (fun i v => Rel i v) (List.range i) l) ?_ (fun i H _ h => hG H h.1) ?_ (fun H h => let ⟨s, l, e, q⟩ := h; done H l s e q)
  · exact ⟨A0, [], upd_same, .nil⟩
  · rintro i x H H' hi ⟨a, l, e, q⟩ y
    have hl : l.length = i := by
      have := q.length
      rw [List.length_range] at this
      omega
    refine gm _ _ _ _ _ (fun σ2 H2 q => ⟨q.1, tyes_of q.2⟩) (step i x H H' l _ hi a e y fun y H4 a4 e4 r => ?_)
    refine ⟨l, e4, small1000 (by omega), Au _ _ _ a4 e4, l ++ [y], upd_same, ?_⟩
    rw [List.range_succ]
    exact Paired.snoc q r
theorem ixN_nat {n k : Nat} (h : k < n) : ixN n (k : Int) = some k := by
  unfold ixN
  first
    | simp [h]
    | (split <;> simp_all <;> omega)
    | omega
end Gm
namespace Gm
open PySem PySem.Spec PyProof.Rows L2
theorem vals_small {is : List Nat} {l : List V} {M : Nat} (h : Paired (fun (_ : Nat) v => ∃ z : Int, v = V.int z ∧ z.natAbs ≤ M) is l) : ∃ zs : List Int, l = zs.map V.int ∧ zs.length = is.length ∧ ∀ z ∈ zs, z.natAbs ≤ M := by
  induction h with
  | nil => exact ⟨[], rfl, rfl, fun z hLen => by cases hLen⟩
  | cons r t ih =>
    obtain ⟨z, rfl, hLen⟩ := r
    obtain ⟨zs, rfl, hl, hb⟩ := ih
    exact ⟨z :: zs, rfl, by rw [List.length_cons, List.length_cons, hl], fun y hy => by
      rcases List.mem_cons.mp hy with rfl | hy
      · exact hLen
      · exact hb y hy⟩
theorem paired_set {α β : Type} {F : α → β → Prop} {x : α} {y : β} (r : F x y) : ∀ {xs : List α} {ys : List β} (i : Nat), Paired F xs ys → Paired F (xs.set i x) (ys.set i y)
  | _, _, _, .nil => .nil
  | _, _, 0, .cons _ t => .cons r t
  | _, _, i + 1, .cons q t => .cons q (paired_set r i t)
end Gm
namespace Gm
open PySem PySem.Spec PyProof.Rows L2
theorem piT {X : Cx} {e tg : Expr} {te : TE} (K : Frag) (hK : X.K = K) (he : PE X e te) : PI X tg e (iTup K te) := by subst hK; exact pi_tup he
theorem piL {X : Cx} {e tg : Expr} {te : TE} (K : Frag) (hK : X.K = K) (he : PE X e te) : PI X tg e (iList K te) := by subst hK; exact pi_list he
end Gm
namespace Gm
open PySem PySem.Spec PyProof.Rows L2
theorem slS_drop1 {K : Frag} {H : Hp} {a : Addr} {ws : List V} {Q : VK} (hs : Seq K H a ws) (h0 : 0 < ws.length) (q : ∀ p H', Same H H' → Seq K H' p (ws.drop 1) → Q (.ref p) H') : rSlS K (.ref a) (some 1) none H Q := by
  rcases hs with hs | hs
  · exact .inl ⟨a, ws, rfl, hs, fun p np => q p _ (same_upd np) (.inl (.inl (.inl (by rw [upd_same, show (1 : Int) = ((1 : Nat) : Int) from rfl, cut_drop]))))⟩
  · refine .inr ⟨a, ws, rfl, hs, fun e => ?_, fun p np => q p _ (same_upd np) (.inr (.inl (.inl (by rw [upd_same, show (1 : Int) = ((1 : Nat) : Int) from rfl, cut_drop]))))⟩
    have := e.1
    rw [show (1 : Int) = ((1 : Nat) : Int) from rfl, HT.sIx_nat] at this
    omega
end Gm
/-! The end of a law whose promise wants that nobody looks on (// of any size), with the script's bits. -/
namespace Gm
open PySem PySem.Spec PyProof.Rows L2
section
variable {P : Program} {w : World} {K : PySem.W.Frag} {h : Heap} {a : Addr} {o : Obj} {xs : List V}
/-- the heap in the proof's words: the script alone, if the module doesn't own it -/
def scr (K : PySem.W.Frag) (a : Addr) (o : Obj) (xs : List V) : Hp := fun b => if b = a ∧ K.lookup a = none then some (.frz o (.lst xs)) else none
theorem scr_some {b : Addr} {u : HO} (e : scr K a o xs b = some u) : b = a ∧ K.lookup a = none ∧ u = .frz o (.lst xs) := by
  unfold scr at e
  split at e
  · rename_i hh
    exact ⟨hh.1, hh.2, (Option.some.inj e).symm⟩
  · cases e
theorem scr_only : Only (scr K a o xs) := fun b => by
  cases e : scr K a o xs b with
  | none => exact .inl rfl
  | some u => exact .inr ⟨o, xs, by rw [(scr_some e).2.2]⟩
theorem scr_none {b : Addr} (n : b ≠ a) : scr K a o xs b = none := if_neg fun q => n q.1
variable (ha : h.get? a = some o)
include ha
theorem scr_other {b : Addr} {o' : Obj} (e : h.get? b = some o') (n : o'.cls ≠ o.cls ∨ ∃ es ep, o'.data = .dict es ep ∧ ∀ es ep, o.data ≠ .dict es ep) : scr K a o xs b = none := by
  refine scr_none fun z => ?_
  rw [z, ha] at e
  cases e
  rcases n with n | ⟨es, ep, e1, n⟩
  · exact n rfl
  · exact n es ep e1
theorem scr_ns (hd : ∀ es ep, o.data ≠ .dict es ep) {b : Addr} {m : Str → Option Value} (q : h.Ns b m) : (hidT h (scr K a o xs)).Ns b m := by
  obtain ⟨o', es, ep, e, d, r⟩ := q
  exact ⟨o', es, ep, hidT_get e (scr_other ha e (.inr ⟨es, ep, d, hd⟩)), d, r⟩
theorem scr_in (X : K.In h) : K.In (hidT h (scr K a o xs)) := fun b o' e => hidT_get (X b o' e) (by
  cases q : scr K a o xs b with
  | none => rfl
  | some u =>
    obtain ⟨rfl, n, _⟩ := scr_some q
    rw [n] at e
    cases e)
theorem scr_seer (hd : ∀ es ep, o.data ≠ .dict es ep) (hc : o.cls ≠ .type "module") (x : h.NoSeer) : (hidT h (scr K a o xs)).NoSeer where
  statics := let ⟨mc, q, r⟩ := x.statics; ⟨mc, scr_ns ha hd q, r⟩
  mods := let ⟨mc, q, r⟩ := x.mods; ⟨mc, scr_ns ha hd q, r⟩
  imp := let ⟨mc, q, r⟩ := x.imp; ⟨mc, scr_ns ha hd q, r⟩
  main := let ⟨mg, bm, ob, q, r, e, c, d⟩ := x.main; ⟨mg, bm, ob, scr_ns ha hd q, r, hidT_get e (scr_other ha e (.inl fun z => hc (z.symm.trans c))), c, d⟩
end
theorem law_callN {P : Program} {w : World} {K : PySem.W.Frag} {mg mb : Str → Option Value} {k : Nat} {fa a : Addr} {fd : FuncData} {x : Str} {sp : Sp} {s₁ : Shared} {vs : List Value} {ns : List Int}
    (X : K.In s₁.heap) (hns : s₁.heap.Ns mainGlobals mg) (hb : s₁.heap.Ns builtinsNs mb) (hbb : ∀ x : Str, x ≠ "__name__" → mb x = bootBuiltins x) (hlim : s₁.heap.NoLimit) (hseer : s₁.heap.NoSeer) (hg : s₁.gens = #[])
    (ha : s₁.heap.get? a = some { cls := .type "list", data := .seq vs.toArray }) (hi : IntsAre vs ns) (hl : ns.length ≤ sizeLine) (hr : Room k callerA)
    (F : ∀ base : Heap, K.In base → base.Ns mainGlobals mg → base.NoSeer → FnOk P w K mg base CX0 k fa fd [x] sp) (hbind : ∀ (s : Shared) (u : Value), BindsTo s fd ⟨[u], []⟩ [(x, u)])
    (hsp : ∀ H : Hp, Only H → SqL K H a (ns.map V.int) → sp [.ref a] H (fun v _ => v = .bl true) fun _ _ _ => False) :
    codeAny (model P w) callerA (.call (.ref fa) ⟨[.ref a], []⟩) (fun r s' => r = .ok (.ret (.bool true)) ∧ OldK s₁.heap s'.heap ∧ s'.os = s₁.os ∧ AllBare s'.gens) s₁ := by
  have hd : ∀ es ep, ({ cls := .type "list", data := .seq vs.toArray } : Obj).data ≠ .dict es ep := fun es ep z => by cases z
  have rv := vals_ints hi
  generalize hHdef : scr K a { cls := .type "list", data := .seq vs.toArray } (ns.map V.int) = H
  have hO : Only H := hHdef ▸ scr_only
  have hSq : SqL K H a (ns.map V.int) := by
    cases hk : K.lookup a with
    | none => exact .inl (.inr ⟨_, by rw [← hHdef]; exact if_pos ⟨rfl, hk⟩⟩)
    | some o =>
      have e := X a o hk
      rw [ha] at e
      cases e
      exact .inr ⟨_, vs.toArray, _, hk, rfl, rfl, rfl, by rw [List.size_toArray, hi.length]; exact hl, by simpa using rv⟩
  have hok : HOk P w H s₁.heap := fun b u z => by
    rw [← hHdef] at z
    obtain ⟨rfl, _, rfl⟩ := scr_some z
    exact ⟨ha, by rw [List.length_map]; exact hl, vs, _, rv, ha⟩
  have hIn : K.In (hidT s₁.heap H) := hHdef ▸ scr_in ha X
  have hNs : ∀ {b : Addr} {m : Str → Option Value}, s₁.heap.Ns b m → (hidT s₁.heap H).Ns b m := fun q => hHdef ▸ scr_ns ha hd q
  have hSr : (hidT s₁.heap H).NoSeer := hHdef ▸ scr_seer ha hd (fun z => absurd (Value.type.inj z) (by decide)) hseer
  have e0 : Env0 P w K mg (hidT s₁.heap H) callerA [] s₁ H :=
    ⟨rfl, ⟨hIn, hNs hns, ⟨mb, hNs hb, hbb⟩, let ⟨mc, h1, h2⟩ := hlim; ⟨mc, hNs h1, h2⟩⟩, fun b o e => of_hidT e, Nat.le_of_eq (hidT_size _ _), trivial, (fun b hb => nomatch (show b ∈ ([] : List Addr) from hb)), hok, .of_eq hg⟩
  have main := (F _ hIn (hNs hns) hSr).run callerA [] s₁ H ⟨[.ref a], []⟩ [.ref a] [.ref a] _ _ hr e0 (hbind s₁ (.ref a)) (.cons rfl .nil) (hsp H hO hSq)
  refine codeAny_mono main fun r s' q => ?_
  match r, q with
  | .error e, q => exact q.elim
  | .ok .next, q => exact False.elim q
  | .ok .brk, q => exact False.elim q
  | .ok .cont, q => exact False.elim q
  | .ok (.ret u), q =>
    obtain ⟨v, H', os, bare, un, hok', rr, qv⟩ := q
    cases (show v = .bl true from qv)
    cases (show u = Value.bool true from rr)
    refine ⟨rfl, OldK.of_keep fun b o e => ?_, os, bare⟩
    cases hb' : H b with
    | none => exact un.keep b o e hb' (fun z => nomatch (show b ∈ ([] : List Addr) from z)) (by simp)
    | some u =>
      obtain ⟨ob, l, z⟩ := (hO b).resolve_left (by rw [hb']; simp)
      have e1 := (hok b _ z).1
      rw [e] at e1
      cases e1
      exact (hok' b _ (un.frzs b _ _ z)).1
theorem walk_ofN {l : PySem.W.OpenLaw} {n k : Nat} {q : Program} {loose : List Str} {XP : (Str → Option Value) → Heap → Prop} {YP : World → Heap → Prop} {d : DefRec} {K : Params → PySem.W.Frag} {sp : PySem.W.Frag → Sp} {x : Str}
    (hn : l.most = some n) (hn2 : n ≤ sizeLine) (hdf : d.params.defaults = []) (hr : Room k callerA) (hq : importsNone q = true)
    (hY : ∀ (w : World) (h : Heap), YP w h → (K w.params).In h)
    (F : ∀ (w : World) (mg : Str → Option Value) (fa : Addr) (h : Heap), YP w h → (K w.params).In h → h.Ns mainGlobals mg → mg d.name = some (.ref fa) →
      ∃ fd : FuncData, (∀ (s : Shared) (u : Value), BindsTo s fd ⟨[u], []⟩ [(x, u)]) ∧
        ∀ base : Heap, (K w.params).In base → base.Ns mainGlobals mg → base.NoSeer → FnOk l.prog w (K w.params) mg base CX0 k fa fd [x] (sp (K w.params)))
    (hsp : ∀ (K : PySem.W.Frag) (H : Hp) (a : Addr) (ns : List Int), ns.length ≤ n → (∀ z ∈ ns, Builtin.Int.intBits z ≤ 1048576) → SqL K H a (ns.map V.int) → sp K [.ref a] H (fun v _ => v = .bl true) fun _ _ _ => False) :
    PySem.W.WalkO q loose XP YP l.row.toRowW d [] (fun f vs => PySem.call f vs) := by
  refine Att.attach_callB hn hdf fun w s₀ s₁ mg mb fa o pm cd doc a vs ns G Y ho hd hcd hmg hobj hints hlen hbits hg => ?_
  have X := hY w _ Y
  obtain ⟨fd, hb, hF⟩ := F w mg fa _ Y X G.T.g hmg
  exact law_callN X G.T.g G.T.b G.T.builtins G.T.nolimit (G.T.seer hq) hg hobj hints (Nat.le_trans hlen hn2) hr hF hb fun H _ hS => hsp _ H a ns hlen hbits hS
end Gm
/-! != of an own class that has only its own == -/
namespace Gm
open PySem PySem.Spec PyProof.Rows L2
section
variable {prog : Program} {w : World} {A : Around} {E : Value → Shared → Prop} {s : Shared} {K : PySem.W.Frag} {x y C f : Addr} {ox oy : Obj} {od od' : Option Obj}
/-- the end of the def's call, turned -/
abbrev NotBack (Q : Value → Shared → Prop) : Value → Shared → Prop := fun v s' => ∃ b, v = Value.bool b ∧ Q (.bool (!b)) s'
theorem objNe_body {Q : Fin → Shared → Prop} (X : K.In s.heap) (J : PySem.W.InstAt s.heap x ox C od) (hs : PySem.W.findIn K (.ref C) "__eq__" = some (some (.ref f))) (hf : PySem.W.isFn K (.ref f) = true) (hu : A.units < cLine)
    (h : wpAny (model prog w) A (call (.ref f) [.ref x, .ref y]) (fun v s' => ∃ b, v = Value.bool b ∧ Q (.done (.ret (.bool (!b)))) s') E s) : wpAny (model prog w) A (Builtin.«object.__ne__» ⟨[.ref x, .ref y], []⟩) Q E s := by
  unfold Builtin.«object.__ne__»
  repeat (first
    | with_reducible refine wpAny_cRoomFor hu ?_
    | (refine wpAny_bind (m := callSpecialIfBound? (.ref x) (Str.ofString "__eq__") [.ref y]) (PySem.W.ifBound_K X J hs hf (wpAny_mono h (fun v s' hv => ?_) fun _ _ e => e))
       obtain ⟨b, rfl, hq⟩ := hv
       repeat (first | exact hq | exact wpAny_pure hq | exact wpAny_truthy_bool hq | (refine wpAny_bind (m := truthy (.bool _)) (wpAny_truthy_bool ?_)) | wp_step))
    | wp_step)
theorem objNe_call {Q : Value → Shared → Prop} (X : K.In s.heap) (J : PySem.W.InstAt s.heap x ox C od) (hm : PySem.W.mroIn K C (.type "object") = some true) (hs : PySem.W.findIn K (.ref C) "__eq__" = some (some (.ref f))) (hf : PySem.W.isFn K (.ref f) = true) (hu : A.units + 1 < cLine)
    (h : wpAny (model prog w) A.in1 (call (.ref f) [.ref x, .ref y]) (NotBack Q) E s) : wpAny (model prog w) A (call (.builtin "object.__ne__") [.ref x, .ref y]) Q E s := by
  refine wpAny_call (codeAny_call_builtin F.cmp_object.ne.plain F.cmpEntry_ne (PySem.W.check_slot F.cmpKind_ne F.cmpSplit_ne (J.type.andThen (PySem.W.looks_mroIn X hm)) (F.cmpArgs_ne _ _) ?_))
  exact objNe_body X J hs hf hu h
theorem objNe_bound {args : List Value} {Q : Option Value → Shared → Prop} (X : K.In s.heap) (J : PySem.W.InstAt s.heap x ox C od) (hn : PySem.W.findIn K (.ref C) "__ne__" = some (some (.builtin "object.__ne__")))
    (h : wpAny (model prog w) A (call (.builtin "object.__ne__") (.ref x :: args)) (fun v => Q (some v)) E s) : wpAny (model prog w) A (callSpecialIfBound? (.ref x) "__ne__" args) Q E s := by
  have last : wpAny (model prog w) A (call (.builtin "object.__ne__") ([.ref x] ++ args) >>= fun v => pure (some v)) Q E s := wpAny_bind (wpAny_mono h (fun _ _ z => wpAny_pure z) fun _ _ z => z)
  have bnd := F.cmp_object.ne.bind (.ref x)
  simp only [callSpecialIfBound?, bindSpecialIfBound?]
  refine wpAny_holding (wpAny_bind (wpAny_bind (wpAny_bind (J.type.here ((PySem.W.looks_findIn X hn).here (wpAny_bind (wpAny_askSetting (wpAny_ite ?_))))))))
  split
  · exact wpAny_bind (wpAny_of_eq (F.cmp_object.ne.bind _) (wpAny_pure (by exact last)))
  · exact wpAny_tryCatch (wpAny_bind (wpAny_of_eq (F.cmp_object.ne.bind _) (wpAny_pure (by exact last))))
theorem cmpNe_K {Q : Value → Shared → Prop} (X : K.In s.heap) (J : PySem.W.InstAt s.heap x ox C od) (J' : PySem.W.InstAt s.heap y oy C od') (hm : PySem.W.mroIn K C (.type "object") = some true)
    (hn : PySem.W.findIn K (.ref C) "__ne__" = some (some (.builtin "object.__ne__"))) (hs : PySem.W.findIn K (.ref C) "__eq__" = some (some (.ref f))) (hf : PySem.W.isFn K (.ref f) = true) (hu : A.units + 1 < cLine)
    (h : wpAny (model prog w) A.in1 (call (.ref f) [.ref x, .ref y]) (NotBack Q) E s) : wpAny (model prog w) A (compareOp .NotEq (.ref x) (.ref y)) Q E s := by
  show wpAny (model prog w) A (richCompare .NotEq (.ref x) (.ref y)) Q E s
  have one : wpAny (model prog w) A (tryCompare (.ref x) "__ne__" (.ref y)) (fun r s' => ∃ v, r = some v ∧ Q v s') E s := by
    unfold tryCompare
    refine wpAny_bind (objNe_bound X J hn (objNe_call X J hm hs hf hu (wpAny_mono h (fun v s' hv => ?_) fun _ _ e => e)))
    obtain ⟨b, rfl, hq⟩ := hv
    exact ⟨b, rfl, wpAny_pure ⟨_, rfl, hq⟩⟩
  unfold richCompare
  rw [cmpInfo_NotEq]
  simp only [oneThing_ref]
  refine wpAny_holding (wpAny_bind (wpAny_cRoomFor (by omega) ?_))
  refine wpAny_bind (J.type.here (wpAny_bind (J'.type.here ?_)))
  rw [show (Value.ref C != Value.ref C) = false from by simp]
  simp only [Bool.false_eq_true, if_false]
  refine wpAny_bind (wpAny_pure ?_)
  simp only [Bool.false_eq_true, if_false]
  refine wpAny_bind (wpAny_mono one (fun r s' z => ?_) fun _ _ e => e)
  obtain ⟨v, rfl, hq⟩ := z
  exact wpAny_pure hq
end
section
variable {X : Cx} {C f : Addr} {fd : FuncData} {ps : List Str} {CX : CXT} {k : Nat} {sp : Sp}
/-- a != b, both instances of one own class that defines == (its own def answers True or False) -/
def rOwnNe (C : Addr) (sp : Sp) (E : XK) : R2 := fun x y H Q => ∃ a b dx dy fs gs, x = .ref a ∧ y = .ref b ∧ H a = some (.ins C dx fs) ∧ H b = some (.ins C dy gs) ∧ sp [x, y] H (fun v H' => ∃ t, v = .bl t ∧ Q (.bl (!t)) H') E
theorem op_ownNe {E : XK} (hm : PySem.W.mroIn X.K C (.type "object") = some true) (hn : PySem.W.findIn X.K (.ref C) "__ne__" = some (some (.builtin "object.__ne__"))) (hs : PySem.W.findIn X.K (.ref C) "__eq__" = some (some (.ref f))) (hf : PySem.W.isFn X.K (.ref f) = true)
    (F : FnOk X.prog X.w X.K X.mg X.base CX k f fd ps sp) (hr : Room (k + 1) X.A) (hb : Binds X.K fd ps []) (hx : ∀ (H : Hp) (s : Shared) (e : Value) (s' : Shared), CX X.stack H s E e s' → False) : OpR X (compareOp .NotEq) (rOwnNe C sp E) := by
  intro pn sg σ H x y v u Q I rx ry h
  obtain ⟨a, b, dx, dy, fs, gs, rfl, rfl, ha, hb', q⟩ := h
  cases rx
  cases ry
  obtain ⟨od, J⟩ := inst_of I ha
  obtain ⟨od', J'⟩ := inst_of I hb'
  refine cmpNe_K I.kIn J J' hm hn hs hf (by have := hr.units; omega) ?_
  have hl := F.len _ _ _ _ q
  have rv : Vals [V.ref a, V.ref b] [Value.ref a, Value.ref b] := .cons rfl (.cons rfl .nil)
  refine wpAny_call (codeAny_mono (F.run X.A.in1 X.stack sg H ⟨[.ref a, .ref b], []⟩ [.ref a, .ref b] [.ref a, .ref b] _ E hr.in1 I.env0.in1 (by
    have := hb sg [.ref a, .ref b] I.kIn (by simpa using hl)
    simpa using this) rv q) fun r s' hq => ?_)
  cases r with
  | error e => exact (hx _ _ _ _ hq).elim
  | ok fl =>
    cases fl with
    | ret w =>
      obtain ⟨z, H', I', rz, t, ez, ex⟩ := I.after hq
      subst ez
      cases (show w = Value.bool t from rz)
      exact ⟨t, rfl, .bl (!t), H', I', rfl, ex⟩
    | next => exact False.elim hq
    | brk => exact False.elim hq
    | cont => exact False.elim hq
end
end Gm
/-! A tuple times 0, 1 or more. -/
namespace Gm
open PySem PySem.Spec PyProof.Rows L2
theorem mul_one_tup (l : Addr) (items : Array Value) (n : Nat) (dd : Option Addr) (sl : Array (Option Value)) (u : Tok) :
    Meets (Builtin.«tuple.__mul__» ⟨[.ref l, .int 1 u], []⟩) (fun _ R s => s.heap.get? l = some { cls := .type "tuple", dict := dd, data := .seq items n, slots := sl } ∧ R (.ok (.ret (Value.ref l))) s) :=
  .of_wp fun prog w A R s h => by
    obtain ⟨h0, g, d, tk, os⟩ := s
    obtain ⟨hGet, h⟩ := h
    have f1 := AutoSeq1.idx_int
    have c0 : (decide ((1 : Int) < -(2 ^ 63)) || decide ((1 : Int) ≥ 2 ^ 63)) = false := by decide
    have c1 : (items.isEmpty || (1 : Int) == 1) = true := by simp
    wp_walk using AutoSeq1.wpAny_loadPart' hGet
    repeat (first
      | (refine wpAny_ite_false (decide_eq_false (by rw [c0]; exact Bool.false_ne_true)) ?_; wp_walk using AutoSeq1.wpAny_loadPart' hGet)
      | (refine wpAny_ite_true (decide_eq_true (by rw [c1])) ?_; wp_walk using AutoSeq1.wpAny_loadPart' hGet))
    exact ⟨_, rfl, h⟩
theorem mul_zero_tup (l : Addr) (items : Array Value) (n : Nat) (dd : Option Addr) (sl : Array (Option Value)) (u : Tok) (hi : items.isEmpty = false) :
    Meets (Builtin.«tuple.__mul__» ⟨[.ref l, .int 0 u], []⟩) (fun _ R s => s.heap.get? l = some { cls := .type "tuple", dict := dd, data := .seq items n, slots := sl } ∧
      R (.ok (.ret (Value.ref s.heap.objs.size))) { s with heap := s.heap.push { cls := Value.type "tuple", data := Data.seq #[] }, toks := s.toks }) :=
  .of_wp fun prog w A R s h => by
    obtain ⟨h0, g, d, tk, os⟩ := s
    obtain ⟨hGet, h⟩ := h
    have f1 := AutoSeq1.idx_int
    have c0 : (decide ((0 : Int) < -(2 ^ 63)) || decide ((0 : Int) ≥ 2 ^ 63)) = false := by decide
    have c1 : (items.isEmpty || (0 : Int) == 1) = false := by rw [hi]; decide
    have c2 : (decide ((0 : Int) ≤ 0) || items.isEmpty) = true := by simp
    wp_walk using AutoSeq1.wpAny_loadPart' hGet
    repeat (first
      | (refine wpAny_ite_false (decide_eq_false (by rw [c0]; exact Bool.false_ne_true)) ?_; wp_walk using AutoSeq1.wpAny_loadPart' hGet)
      | (refine wpAny_ite_false (decide_eq_false (by rw [c1]; exact Bool.false_ne_true)) ?_; wp_walk using AutoSeq1.wpAny_loadPart' hGet)
      | (refine wpAny_ite_true (decide_eq_true (by rw [c2])) ?_; wp_walk using AutoSeq1.wpAny_loadPart' hGet))
    exact ⟨_, rfl, h⟩
/-- xs * k for a tuple that is not empty, k from 0 on -/
def rRepA (K : Frag) : R2 := fun x y H Q => ∃ l k xs, x = .ref l ∧ y = .int k ∧ SqT K H l xs ∧ xs ≠ [] ∧ 0 ≤ k ∧ k ≤ 1000 ∧ xs.length ≤ 1000 ∧ (k = 1 → Q (.ref l) H) ∧ (k ≠ 1 → ∀ p, H p = none → Q (.ref p) (upd H p (.tup (List.replicate k.toNat xs).flatten)))
section
variable {X : Cx}
theorem op_repA : OpR X (binaryOp .Mult) (rRepA X.K) := by
  intro pn sh σ H x y v u Q I rx ry h
  obtain ⟨l, k, xs, rfl, rfl, hT, hne, h1, h2, hz, q1, q2⟩ := h
  by_cases k2 : 2 ≤ k
  · exact op_repT pn sh σ H _ _ _ _ Q I rx ry ⟨l, k, xs, rfl, rfl, hT, hne, k2, h2, hz, q2 (by omega)⟩
  cases rx
  obtain ⟨t, rfl⟩ := ry
  obtain ⟨vals, r, ⟨⟨cls, dd, data, sl⟩, ho, hc, n, hd⟩, hs⟩ := I.tuple hT
  simp only at hc hd
  subst hc hd
  have hi : vals.toArray.isEmpty = false := by
    cases vals with
    | nil => exact absurd (List.eq_nil_of_length_eq_zero r.length) hne
    | cons a b => rfl
  by_cases k1 : k = 1
  · subst k1
    refine wpAny_binaryOp_repeat_ref (T := "tuple") (U := "int") (by decide) ⟨_, ho, rfl⟩ (fun s' => typeIs_int s' 1 t) noFill_tuple_mul F.fills_int_mul F.slot_int_rmul repeat_tuple F.slot_int_index.lookup
      (call_meets F.slot_int_rmul (typeIs_int sh 1 t) F.entry_int_rmul (F.args_int_rmul_2 _ _) (int_rmul_tuple 1 t l vals.toArray n dd sl)
        ⟨ho, rfl, ⟨_, ho, rfl⟩, call_meets F.slot_tuple_mul ⟨_, ho, rfl⟩ F.entry_tuple_mul (F.args_tuple_mul_2 _ _) (mul_one_tup l vals.toArray n dd sl t) ⟨ho, ?_⟩⟩)
    exact ⟨.ref l, H, I, rfl, q1 rfl⟩
  · obtain rfl : k = 0 := by omega
    refine wpAny_binaryOp_repeat_ref (T := "tuple") (U := "int") (by decide) ⟨_, ho, rfl⟩ (fun s' => typeIs_int s' 0 t) noFill_tuple_mul F.fills_int_mul F.slot_int_rmul repeat_tuple F.slot_int_index.lookup
      (call_meets F.slot_int_rmul (typeIs_int sh 0 t) F.entry_int_rmul (F.args_int_rmul_2 _ _) (int_rmul_tuple 0 t l vals.toArray n dd sl)
        ⟨ho, rfl, ⟨_, ho, rfl⟩, call_meets F.slot_tuple_mul ⟨_, ho, rfl⟩ F.entry_tuple_mul (F.args_tuple_mul_2 _ _) (mul_zero_tup l vals.toArray n dd sl t hi) ⟨ho, ?_⟩⟩)
    have q := q2 (by decide) sh.heap.objs.size (I.hok.fresh (Nat.le_refl _))
    refine ⟨.ref sh.heap.objs.size, _, I.laid (t' := sh.toks) (o := .tup []) (fun b ob q => Heap.get?_push_of_some _ q) (Nat.le_refl _) ⟨Nat.zero_le _, [], .nil, IsTup.new _ _⟩, rfl, q⟩
theorem repAK (K : Frag) (hK : X.K = K) : OpR X (binaryOp .Mult) (rRepA K) := by subst hK; exact op_repA
end
end Gm
/-! Making an object, and an own operator, that may raise: what is raised is wished for at the caller's slots. -/
namespace Gm
open PySem PySem.Spec PyProof.Rows L2
section
variable {X : Cx} {C f : Addr} {fd : FuncData} {ps : List Str} {CX : CXT} {k : Nat} {sp : Sp} {E : L2.St → XK} {x : Str} {p pos : Pos} {e : Expr} {es : List Expr} {t : TA} {dvs : List V} {ds : List Value}
def tMakeS (C : Addr) (sp : Sp) (dvs : List V) (E : L2.St → XK) (t : TA) : TE := fun σ H Q => t σ H fun vs H1 => ∀ x dx, H1 x = none → H1 dx = none → dx ≠ x → sp (.ref x :: (vs ++ dvs)) (upd (upd H1 dx (.own x)) x (.ins C dx [])) (fun v H2 => v = .non ∧ Q (.ref x) H2) (E σ)
theorem pe_makeS (M : Mk X.K C f) (F : FnOk X.prog X.w X.K X.mg X.base CX k f fd ps sp) (hr : Room (k + 1) X.A) (hg : Gl X x) (hm : X.mg x = some (.ref C)) (hb : Binds X.K fd ps ds) (hd : Vals dvs ds) (hx : ∀ σ, PassesAt CX X σ (E σ))
    (ha : PA X (e :: es) t) (hdb : (x == ("__debug__" : Str)) = false := by decide) (he : starEach (e :: es) X.env = (false, eval e X.env) :: starEach es X.env := by rfl) (hpl : (backTo pos (starEach es X.env)).any (·.1) = false := by rfl) :
    PE X (.Call (.Name x p) (e :: es) [] pos) (tMakeS C sp dvs E t) := by
  refine ⟨fun pn sh σ H Q I h => ?_⟩
  refine wpAny_Call_Name_kw (ld_glob I hg hm ?_ hdb)
  refine PySem.W.callWith_K (h₀ := X.base) I.ok.mod.kin M.kp (thn (ha.run pos pn sh σ H _ I h) fun argv sA ⟨vs, H1, J, rel, q⟩ => ⟨J.kIn, ?_⟩) he hpl
  have q0 := q (sA.heap.objs.size + 1) sA.heap.objs.size (J.hok.fresh (Nat.le_succ _)) (J.hok.fresh (Nat.le_refl _)) (Nat.ne_of_lt (Nat.lt_succ_self _))
  have J2 := Inv.made (C := C) J
  have rel2 : Vals (V.ref (sA.heap.objs.size + 1) :: (vs ++ dvs)) (Value.ref (sA.heap.objs.size + 1) :: (argv ++ ds)) := .cons rfl (rel.append hd)
  have hl : (Value.ref (sA.heap.objs.size + 1) :: argv ++ ds).length = ps.length := by
    have el := rel2.length
    rw [F.len _ _ _ _ q0] at el
    exact el.symm
  have main := F.run _ X.stack _ _ ⟨Value.ref (sA.heap.objs.size + 1) :: argv, []⟩ (Value.ref (sA.heap.objs.size + 1) :: (argv ++ ds)) _ _ (E σ) (hr.make C argv []) (J2.env0.make C argv []) (hb _ (Value.ref (sA.heap.objs.size + 1) :: argv) J2.kIn hl) rel2 q0
  refine wpAny_call (make_map (f := f) J.kIn M.makes M.init (beq_iff_eq.mp M.fn) (codeAny_mono main fun r s' z => ?_))
  match r, z with
  | .error er, z => exact hx σ pn _ _ er s' J2 z
  | .ok (.ret u), z =>
    obtain ⟨v, H', J3, rv, ev, q3⟩ := J2.after z
    subst ev
    exact ⟨rv, ⟨V.ref (sA.heap.objs.size + 1), H', J3, rfl, q3⟩⟩
  | .ok .next, z => exact False.elim z
  | .ok .brk, z => exact False.elim z
  | .ok .cont, z => exact False.elim z
end
section
variable {X : Cx} {C f : Addr} {fd : FuncData} {ps : List Str} {CX : CXT} {k : Nat} {sp : Sp} {E : L2.St → XK} {a b : Expr} {ta tb : TE} {pos : Pos}
/-- a op b of one own class, where the def may raise -/
def tOpS (C : Addr) (sp : Sp) (E : L2.St → XK) (ta tb : TE) : TE := fun σ H Q => ta σ H fun x H1 => tb σ H1 fun y H2 => ∃ c d dx dy fs gs, x = .ref c ∧ y = .ref d ∧ H2 c = some (.ins C dx fs) ∧ H2 d = some (.ins C dy gs) ∧ sp [x, y] H2 Q (E σ)
theorem pe_opS {op : Operator} (hc : PySem.W.selfFirst X.K C = true) (hs : PySem.W.findIn X.K (.ref C) (PySem.dunder op.info.2) = some (some (.ref f))) (hf : PySem.W.isFn X.K (.ref f) = true)
    (F : FnOk X.prog X.w X.K X.mg X.base CX k f fd ps sp) (hr : Room k X.A) (hb : Binds X.K fd ps []) (hx : ∀ σ, PassesAt CX X σ (E σ)) (ha : PE X a ta) (hb' : PE X b tb) : PE X (.BinOp a op b pos) (tOpS C sp E ta tb) := by
  refine ⟨fun pn sh σ H Q I h => ?_⟩
  refine wpAny_BinOp (binT ha hb' I h fun v u s2 x y H2 I2 rx ry q => ?_)
  obtain ⟨c, d, dx, dy, fs, gs, rfl, rfl, hc1, hd1, q⟩ := q
  cases rx
  cases ry
  obtain ⟨od, J⟩ := inst_of I2 hc1
  obtain ⟨od', J'⟩ := inst_of I2 hd1
  obtain ⟨m, hF⟩ := I2.fr
  refine PySem.W.binop_K hF I2.ok.mod.kin J J'.type hc hs hf ?_
  refine wpAny_mono (run_fnS (us := [.ref c, .ref d]) (vs := [.ref c, .ref d]) F hr hb (hx σ) I2 (.cons rfl (.cons rfl .nil)) q) (fun w s' z => ?_) fun _ _ z => z
  obtain ⟨zR, HR, IR, relZ, postZ⟩ := z
  exact SlX.cmpback relZ ⟨zR, HR, IR, relZ, postZ⟩
end
end Gm
/-! list(zip(xs, ys)) of two tuples. -/
namespace Gm
open PySem PySem.Spec PyProof.Rows L2 RZ
abbrev ZipF (h : Heap) (z TI TO T0 : Addr) (f : Bool) : Prop :=
  h.get? z = some { cls := .type "zip", dict := none, data := .fields #[rawInt T0, .bool f, .bool false, .ref TI, .ref TO], slots := #[] }
section
variable {prog : Program} {w : World} {A : Around} {E : Value → Shared → Prop} {s : Shared}
theorem zip_busy {z TI TO T0 : Addr} {f : Bool} {oT : Obj} {Q : Bool → Shared → Prop} (hz : ZipF s.heap z TI TO T0 f) (hT : s.heap.get? T0 = some oT)
    (q : ∀ h', ZipF h' z TI TO T0 true → Heap.SameBut z s.heap h' → Q false { s with heap := h' }) : wpAny (model prog w) A (Builtin.SmallTypes.ownedTupleIsFree (.ref z)) Q E s := by
  unfold Builtin.SmallTypes.ownedTupleIsFree
  refine wpAny_bind (wpAny_field hz rfl (x := rawInt T0) rfl ?_)
  show wpAny _ _ (loadIfAlive ((T0 : Int)).toNat >>= _) _ _ _
  rw [Int.toNat_natCast]
  refine wpAny_bind (PySem.W.kdx_alive hT ?_)
  simp only [Option.isNone_some, Bool.false_eq_true, if_false]
  refine wpAny_bind (wpAny_field hz rfl (x := .bool f) rfl ?_)
  cases f with
  | false =>
    rw [if_pos (by decide)]
    refine wpAny_bind (wpAny_setField_rec hz (by simp) fun h1 hz1 hs1 => wpAny_pure (q h1 hz1 hs1))
  | true =>
    rw [if_neg (by decide)]
    exact wpAny_pure (q s.heap hz ⟨rfl, fun _ _ => rfl⟩)
theorem zipT_busy_item {z TI TO T0 i1 i2 l1 l2 : Addr} {f : Bool} {oT : Obj} {k1 k2 : Nat} {xs ys : Array Value} {x y : Value} {Q : Value → Shared → Prop} (D : ZipApart z TI TO i1 i2 l1 l2)
    (hz : ZipF s.heap z TI TO T0 f) (hT : s.heap.get? T0 = some oT) (hTI : IsPair s.heap TI (.ref i1) (.ref i2))
    (h1 : s.heap.IsTupleIter i1 l1 k1) (h2 : s.heap.IsTupleIter i2 l2 k2) (hl1 : s.heap.IsTuple l1 xs) (hl2 : s.heap.IsTuple l2 ys) (hx : xs[k1]? = some x) (hy : ys[k2]? = some y)
    (hQ : ∀ h', ZipF h' z TI TO T0 true → h'.IsTupleIter i1 l1 (k1 + 1) → h'.IsTupleIter i2 l2 (k2 + 1) → IsPair h' s.heap.objs.size x y → h'.objs.size = s.heap.objs.size + 1 →
      (∀ c o, c ≠ z → c ≠ i1 → c ≠ i2 → s.heap.get? c = some o → h'.get? c = some o) → Q (.ref s.heap.objs.size) { s with heap := h' }) :
    wpAny (model prog w) A (Builtin.«zip.__next__» ⟨[.ref z], []⟩) (fun fin s' => ∃ v, fin = .done (.ret v) ∧ Q v s') E s := by
  show wpAny _ _ (field (.ref z) 2 >>= _) _ _ _
  refine wpAny_bind (wpAny_field hz rfl (x := .bool false) rfl ?_)
  show wpAny _ _ (field (.ref z) 3 >>= _) _ _ _
  refine wpAny_bind (wpAny_field hz rfl (x := .ref TI) rfl ?_)
  refine wpAny_bind (wpAny_seqItems hTI rfl ?_)
  show wpAny _ _ (Builtin.SmallTypes.ownedTupleIsFree (.ref z) >>= _) _ _ _
  refine wpAny_bind (zip_busy hz hT fun g1 hz1 hs1 => ?_)
  simp only [Bool.false_eq_true, if_false]
  refine wpAny_bind ?_
  rw [← Array.forIn_toList]
  simp only [List.forIn_cons, List.forIn_nil]
  refine wpAny_bind (wpAny_bind (wpAny_holding ?_))
  show wpAny _ _ (Builtin.SmallTypes.nextOf (.ref i1) >>= _) _ _ _
  refine wpAny_bind (nextOf_tuple_item (h1.extBut hs1.extBut D.i1z) (hl1.extBut hs1.extBut D.l1z) hx fun g2 h12 hs2 => wpAny_pure ?_)
  refine wpAny_pure ?_
  dsimp only
  refine wpAny_bind (wpAny_bind (wpAny_holding ?_))
  show wpAny _ _ (Builtin.SmallTypes.nextOf (.ref i2) >>= _) _ _ _
  refine wpAny_bind (nextOf_tuple_item ((h2.extBut hs1.extBut D.i2z).extBut hs2.extBut D.i12.symm) ((hl2.extBut hs1.extBut D.l2z).extBut hs2.extBut D.l2i1) hy fun g3 h23 hs3 => wpAny_pure ?_)
  refine wpAny_pure ?_
  dsimp only
  refine wpAny_pure ?_
  dsimp only
  refine wpAny_bind (wpAny_newTuple ?_ (by show 2 ≤ sizeLine; decide))
  have hsz : g3.objs.size = s.heap.objs.size := by rw [hs3.1, hs2.1, hs1.1]
  have hz3 : ZipF g3 z TI TO T0 true := hs3.extBut _ _ D.i2z.symm (hs2.extBut _ _ D.i1z.symm hz1)
  have hk3 : ∀ c o, c ≠ z → c ≠ i1 → c ≠ i2 → s.heap.get? c = some o → g3.get? c = some o := fun c o c1 c2 c3 e => hs3.extBut _ _ c3 (hs2.extBut _ _ c2 (hs1.extBut _ _ c1 e))
  have h13 : g3.IsTupleIter i1 l1 (k1 + 1) := h12.extBut hs3.extBut D.i12
  refine wpAny_pure ⟨_, rfl, ?_⟩
  show Q (.ref g3.objs.size) _
  have hT3 : IsPair (g3.push { cls := .type "tuple", data := .seq #[x, y] }) g3.objs.size x y := Heap.get?_push_size _ rfl
  have up : ∀ c o, g3.get? c = some o → (g3.push { cls := .type "tuple", data := .seq #[x, y] }).get? c = some o := fun c o e => Heap.get?_push_of_some _ e
  rw [hsz] at hT3 ⊢
  exact hQ _ (up _ _ hz3) (h13.at fun o e => up _ o e) (h23.at fun o e => up _ o e) hT3 (by rw [Heap.size_push, hsz]) fun c o c1 c2 c3 e => up c o (hk3 c o c1 c2 c3 e)
theorem zipT_busy_end {z TI TO T0 i1 i2 l1 l2 : Addr} {f : Bool} {oT : Obj} {k1 : Nat} {xs : Array Value} {Q : Fin → Shared → Prop} (hh : A.handled = none) (D : ZipApart z TI TO i1 i2 l1 l2)
    (hz : ZipF s.heap z TI TO T0 f) (hT : s.heap.get? T0 = some oT) (hTI : IsPair s.heap TI (.ref i1) (.ref i2))
    (h1 : s.heap.IsTupleIter i1 l1 k1) (hl1 : s.heap.IsTuple l1 xs) (hend : xs[k1]? = none)
    (hE : ∀ h' e, (∀ c o, c ≠ z → c ≠ i1 → s.heap.get? c = some o → h'.get? c = some o) → (∃ o, h'.get? e = some o ∧ o.cls = .type "StopIteration") → E (.ref e) { s with heap := h' }) :
    wpAny (model prog w) A (Builtin.«zip.__next__» ⟨[.ref z], []⟩) Q E s := by
  show wpAny _ _ (field (.ref z) 2 >>= _) _ _ _
  refine wpAny_bind (wpAny_field hz rfl (x := .bool false) rfl ?_)
  show wpAny _ _ (field (.ref z) 3 >>= _) _ _ _
  refine wpAny_bind (wpAny_field hz rfl (x := .ref TI) rfl ?_)
  refine wpAny_bind (wpAny_seqItems hTI rfl ?_)
  show wpAny _ _ (Builtin.SmallTypes.ownedTupleIsFree (.ref z) >>= _) _ _ _
  refine wpAny_bind (zip_busy hz hT fun g1 hz1 hs1 => ?_)
  simp only [Bool.false_eq_true, if_false]
  refine wpAny_bind ?_
  rw [← Array.forIn_toList]
  simp only [List.forIn_cons, List.forIn_nil]
  refine wpAny_bind (wpAny_bind (wpAny_holding ?_))
  show wpAny _ _ (Builtin.SmallTypes.nextOf (.ref i1) >>= _) _ _ _
  refine wpAny_bind (nextOf_tuple_end hh (h1.extBut hs1.extBut D.i1z) (hl1.extBut hs1.extBut D.l1z) hend ?_)
  intro h' e ext he
  exact hE h' e (fun c o c1 c2 x => ext c o c2 (hs1.extBut c o c1 x)) he
/-- the zip's cells before its turn i -/
def ZS (h : Heap) (z TI TO i1 i2 l1 l2 : Addr) (i : Nat) : Prop :=
  IsPair h TI (.ref i1) (.ref i2) ∧ h.IsTupleIter i1 l1 i ∧ h.IsTupleIter i2 l2 i ∧ ((IsZip h z TI TO .none ∧ ∃ a b, IsPair h TO a b) ∨ ∃ T0 f oT, ZipF h z TI TO T0 f ∧ h.get? T0 = some oT)
theorem ZS.ty {z TI TO i1 i2 l1 l2 : Addr} {i : Nat} {h : Heap} (st : ZS h z TI TO i1 i2 l1 l2 i) : ∃ o, h.get? z = some o ∧ o.cls = .type "zip" := by
  obtain ⟨_, _, _, ⟨hz, _⟩ | ⟨_, _, _, hz, _⟩⟩ := st
  · exact ⟨_, hz, rfl⟩
  · exact ⟨_, hz, rfl⟩
theorem zip_item {z TI TO i1 i2 l1 l2 : Addr} {i : Nat} {xs ys : Array Value} {x y : Value} {Q : Option Value → Shared → Prop} (D : ZipApart z TI TO i1 i2 l1 l2) (st : ZS s.heap z TI TO i1 i2 l1 l2 i)
    (hl1 : s.heap.IsTuple l1 xs) (hl2 : s.heap.IsTuple l2 ys) (hx : xs[i]? = some x) (hy : ys[i]? = some y)
    (hQ : ∀ h', ZS h' z TI TO i1 i2 l1 l2 (i + 1) → IsPair h' s.heap.objs.size x y → h'.objs.size = s.heap.objs.size + 1 →
      (∀ c o, c ≠ z → c ≠ TO → c ≠ i1 → c ≠ i2 → s.heap.get? c = some o → h'.get? c = some o) → Q (some (.ref s.heap.objs.size)) { s with heap := h' }) :
    wpAny (model prog w) A (pyNext (.ref z)) Q E s := by
  have hTy : s.TypeIs (.ref z) "zip" := st.ty
  obtain ⟨hTI, h1, h2, ⟨hz, a, b, hTO⟩ | ⟨T0, f, oT, hz, hT0⟩⟩ := st
  · refine pyNext_zipT_item D hz hTI hTO h1 h2 hl1 hl2 hx hy fun h' z' TO' h1' h2' hT hsz hk => ?_
    exact hQ h' ⟨hk _ _ D.TIz D.TITO D.TIi1 D.TIi2 hTI, h1', h2', .inr ⟨s.heap.objs.size, false, _, z', hT⟩⟩ hT hsz hk
  · unfold pyNext
    refine wpAny_bind (wpAny_attempt (wpAny_callSpecial?_slot (name := Str.ofString "__next__") hTy F.slot_zip_next (wpAny_call_entry F.slot_zip_next hTy F.entry_zip_next
      (zipT_busy_item D hz hT0 hTI h1 h2 hl1 hl2 hx hy fun h' z' h1' h2' hT hsz hk => wpAny_pure ?_) (F.args_zip_next_1 _))))
    have h0 : T0 ≠ z ∨ T0 = z := (Decidable.em (T0 = z)).symm
    have alive : ∃ o', h'.get? T0 = some o' := by
      by_cases e1 : T0 = z
      · exact ⟨_, by rw [e1]; exact z'⟩
      · by_cases e2 : T0 = i1
        · obtain ⟨o, ho, _⟩ := h1'
          exact ⟨o, by rw [e2]; exact ho⟩
        · by_cases e3 : T0 = i2
          · obtain ⟨o, ho, _⟩ := h2'
            exact ⟨o, by rw [e3]; exact ho⟩
          · exact ⟨_, hk _ _ e1 e2 e3 hT0⟩
    obtain ⟨o', ho'⟩ := alive
    exact hQ h' ⟨hk _ _ D.TIz D.TIi1 D.TIi2 hTI, h1', h2', .inr ⟨T0, true, o', z', ho'⟩⟩ hT hsz fun c o c1 _ c3 c4 e => hk c o c1 c3 c4 e
theorem zip_done {z TI TO i1 i2 l1 l2 : Addr} {i : Nat} {xs ys : Array Value} {Q : Option Value → Shared → Prop} (hh : A.handled = none) (D : ZipApart z TI TO i1 i2 l1 l2) (st : ZS s.heap z TI TO i1 i2 l1 l2 i)
    (hl1 : s.heap.IsTuple l1 xs) (hl2 : s.heap.IsTuple l2 ys) (hend : xs[i]? = none)
    (hQ : ∀ h', (∀ c o, c ≠ z → c ≠ TO → c ≠ i1 → c ≠ i2 → s.heap.get? c = some o → h'.get? c = some o) → Q none { s with heap := h' }) :
    wpAny (model prog w) A (pyNext (.ref z)) Q E s := by
  have hTy : s.TypeIs (.ref z) "zip" := st.ty
  obtain ⟨hTI, h1, h2, ⟨hz, a, b, hTO⟩ | ⟨T0, f, oT, hz, hT0⟩⟩ := st
  · exact pyNext_zipT_end hh D hz hTI hTO h1 h2 hl1 hl2 (.inl hend) hQ
  · unfold pyNext
    refine wpAny_bind (wpAny_attempt (wpAny_callSpecial?_slot (name := Str.ofString "__next__") hTy F.slot_zip_next (wpAny_call_entry F.slot_zip_next hTy F.entry_zip_next
      (zipT_busy_end hh D hz hT0 hTI h1 hl1 hend fun h' e hk he => ?_) (F.args_zip_next_1 _))))
    obtain ⟨o, ho, hc⟩ := he
    refine wpAny_bind (wpAny_isInstance (T := "StopIteration") (b := true) ⟨o, ho, hc⟩ isSubtype_stop ?_)
    exact wpAny_pure (hQ _ fun c o c1 _ c3 _ e => hk c o c1 c3 e)
/-- the pairs that were made, each apart -/
structure Pairs (xs ys : Array Value) (lo : Addr) (h : Heap) (as : List Addr) : Prop where
  rise : as.Pairwise (· < ·)
  above : ∀ a ∈ as, lo ≤ a
  pairs : ∀ (j : Nat) (a : Addr), as[j]? = some a → ∃ x y, xs[j]? = some x ∧ ys[j]? = some y ∧ IsPair h a x y
theorem ZS.keep {z TI TO i1 i2 l1 l2 : Addr} {i : Nat} {h h' : Heap} {S : Addr} (st : ZS h z TI TO i1 i2 l1 l2 i) (hS : S ≠ z ∧ S ≠ TI ∧ S ≠ TO ∧ S ≠ i1 ∧ S ≠ i2) (hk : ∀ b o, b ≠ S → h.get? b = some o → h'.get? b = some o) (hSl : ∃ o, h'.get? S = some o) : ZS h' z TI TO i1 i2 l1 l2 i := by
  obtain ⟨n1, n2, n3, n4, n5⟩ := hS
  obtain ⟨hTI, h1, h2, q⟩ := st
  refine ⟨hk _ _ n2.symm hTI, h1.at fun o e => hk _ o n4.symm e, h2.at fun o e => hk _ o n5.symm e, ?_⟩
  rcases q with ⟨hz, a, b, hTO⟩ | ⟨T0, f, oT, hz, hT0⟩
  · exact .inl ⟨hk _ _ n1.symm hz, a, b, hk _ _ n3.symm hTO⟩
  · refine .inr ⟨T0, f, ?_⟩
    by_cases e : T0 = S
    · obtain ⟨o, ho⟩ := hSl
      exact ⟨o, hk _ _ n1.symm hz, by rw [e]; exact ho⟩
    · exact ⟨oT, hk _ _ n1.symm hz, hk _ _ e hT0⟩
theorem zip_loop {z TI TO i1 i2 l1 l2 S : Addr} {xs ys : Array Value} {R : Result → Shared → Prop} {lo : Addr} {h0 : Heap} (hh : A.handled = none) (D : ZipApart z TI TO i1 i2 l1 l2) (hS : S ≠ z ∧ S ≠ TI ∧ S ≠ TO ∧ S ≠ i1 ∧ S ≠ i2) (hSl : S ≠ l1 ∧ S ≠ l2) (hxy : xs.size = ys.size) (hn : xs.size ≤ sizeLine) (res : Value)
    (hlo : S < lo) (hfz : z < lo ∧ TO < lo ∧ i1 < lo ∧ i2 < lo)
    (hR : ∀ h' acc c as, (∀ b o, b ≠ S → b ≠ z → b ≠ TO → b ≠ i1 → b ≠ i2 → h0.get? b = some o → h'.get? b = some o) → h'.get? S = some { cls := .type "list", dict := none, data := .seq acc c, slots := #[] } → as.length = xs.size → Pairs xs ys lo h' as → acc.toList = as.map Value.ref → R (.ok (.ret res)) { s with heap := h' }) :
    ∀ (k i : Nat) (h : Heap) (c : Nat) (acc : Array Value) (as : List Addr), xs.size - i = k → i ≤ xs.size → ZS h z TI TO i1 i2 l1 l2 i → h.IsTuple l1 xs → h.IsTuple l2 ys → lo ≤ h.objs.size →
      (∀ b o, b ≠ S → b ≠ z → b ≠ TO → b ≠ i1 → b ≠ i2 → h0.get? b = some o → h.get? b = some o) → h.get? S = some { cls := .type "list", dict := none, data := .seq acc c, slots := #[] } → acc.toList = as.map Value.ref → as.length = i → Pairs xs ys lo h as →
      codeAny (model prog w) A (.builtin "list.extend.loop" ⟨[.ref S, .ref z, res], []⟩) R { s with heap := h } := by
  obtain ⟨n1, n2, n3, n4, n5⟩ := id hS
  intro k
  induction k with
  | zero =>
    intro i h c acc as hk hi st hl1 hl2 hls hkeep hSg hacc hal hG
    refine codeAny_builtin F.entry_extend_loop ?_
    rw [Around.under_plainId F.plain_extend_loop _]
    show wpAny _ A.in1 (pyNext (.ref z) >>= _) _ _ _
    refine wpAny_bind (zip_done (s := { s with heap := h }) (A := A.in1) hh D st hl1 hl2 (by simp; omega) fun h' he => ?_)
    have off : ∀ a ∈ as, a ≠ z ∧ a ≠ TO ∧ a ≠ i1 ∧ a ≠ i2 := fun a ha => by
      have d := hG.above a ha
      exact ⟨Nat.ne_of_gt (Nat.lt_of_lt_of_le hfz.1 d), Nat.ne_of_gt (Nat.lt_of_lt_of_le hfz.2.1 d), Nat.ne_of_gt (Nat.lt_of_lt_of_le hfz.2.2.1 d), Nat.ne_of_gt (Nat.lt_of_lt_of_le hfz.2.2.2 d)⟩
    refine wpAny_pure (hR h' acc c as (fun b o b1 b2 b3 b4 b5 e => he b o b2 b3 b4 b5 (hkeep b o b1 b2 b3 b4 b5 e)) (he S _ n1 n3 n4 n5 hSg) (by omega) ⟨hG.rise, hG.above, fun j a hj => ?_⟩ hacc)
    obtain ⟨x, y, e1, e2, e3⟩ := hG.pairs j a hj
    obtain ⟨q1, q2, q3, q4⟩ := off a (List.mem_of_getElem? hj)
    exact ⟨x, y, e1, e2, he a _ q1 q2 q3 q4 e3⟩
  | succ k ih =>
    intro i h c acc as hk hi st hl1 hl2 hls hkeep hSg hacc hal hG
    have hlt : i < xs.size := by omega
    have hsz : acc.size = i := by rw [← Array.length_toList, hacc, List.length_map, hal]
    refine codeAny_builtin F.entry_extend_loop ?_
    rw [Around.under_plainId F.plain_extend_loop _]
    show wpAny _ A.in1 (pyNext (.ref z) >>= _) _ _ _
    refine wpAny_bind (zip_item (s := { s with heap := h }) (A := A.in1) D st hl1 hl2 (Array.getElem?_eq_getElem hlt) (Array.getElem?_eq_getElem (by omega : i < ys.size)) fun h' st' hT hz1 hkp => ?_)
    dsimp only at hT hz1 hkp ⊢
    have hS' := hkp S _ n1 n3 n4 n5 hSg
    have up : ∀ b o, b ≠ S → h'.get? b = some o → (h'.update S (Obj.mapSeq (·.push (Value.ref h.objs.size)))).get? b = some o := fun b o hb e => (Heap.get?_update_other _ _ (Ne.symm hb)).trans e
    have hSlt : S < h.objs.size := Heap.lt_size hSg
    have hself := Heap.get?_update_self (Obj.mapSeq (·.push (Value.ref h.objs.size))) hS' rfl
    show wpAny _ A.in1 (updateSeq S (·.push (Value.ref h.objs.size)) >>= _) _ _ _
    refine wpAny_bind ?_
    have hTn : h.objs.size ≠ S := Nat.ne_of_gt hSlt
    have ls1 : l1 ≠ z ∧ l1 ≠ TO ∧ l1 ≠ i1 ∧ l1 ≠ i2 := ⟨D.l1z, D.l1TO, D.l1i1, D.l1i2⟩
    have ls2 : l2 ≠ z ∧ l2 ≠ TO ∧ l2 ≠ i1 ∧ l2 ≠ i2 := ⟨D.l2z, D.l2TO, D.l2i1, D.l2i2⟩
    have both : ∀ b o, b ≠ S → b ≠ z → b ≠ TO → b ≠ i1 → b ≠ i2 → h.get? b = some o → (h'.update S (Obj.mapSeq (·.push (Value.ref h.objs.size)))).get? b = some o := fun b o b1 b2 b3 b4 b5 e => up b o b1 (hkp b o b2 b3 b4 b5 e)
    have tup : ∀ {l : Addr} {us : Array Value}, l ≠ S → l ≠ z ∧ l ≠ TO ∧ l ≠ i1 ∧ l ≠ i2 → h.IsTuple l us → (h'.update S (Obj.mapSeq (·.push (Value.ref h.objs.size)))).IsTuple l us := fun n q ⟨o, ho, r⟩ => ⟨o, both _ o n q.1 q.2.1 q.2.2.1 q.2.2.2 ho, r⟩
    refine wpAny_updateSeq hS' rfl (wpAny_pure ⟨plainId_quiet F.plain_extend_loop _, ih (i + 1) _ _ (acc.push (Value.ref h.objs.size)) (as ++ [h.objs.size]) (by omega) hlt (st'.keep hS up ⟨_, hself⟩) (tup hSl.1.symm ls1 hl1) (tup hSl.2.symm ls2 hl2) ?_
      (fun b o b1 b2 b3 b4 b5 e => both b o b1 b2 b3 b4 b5 (hkeep b o b1 b2 b3 b4 b5 e)) hself (by rw [Array.toList_push, hacc, List.map_append]; rfl) (by rw [List.length_append, hal]; rfl) ⟨?_, ?_, ?_⟩⟩) (by rw [hsz]; omega) (by show (acc.push (Value.ref h.objs.size)).size ≤ sizeLine + 1; rw [Array.size_push, hsz]; omega)
    · refine Nat.le_trans hls ?_
      have e : (h'.update S (Obj.mapSeq (·.push (Value.ref h.objs.size)))).get? h.objs.size = _ := up _ _ hTn hT
      exact Nat.le_of_lt (Heap.lt_size e)
    · refine List.pairwise_append.mpr ⟨hG.rise, List.pairwise_singleton _ _, fun a ha b hb => ?_⟩
      rw [List.mem_singleton.mp hb]
      obtain ⟨j, hj⟩ := List.getElem?_of_mem ha
      obtain ⟨_, _, _, _, e3⟩ := hG.pairs j a hj
      exact Heap.lt_size e3
    · intro a ha
      rcases List.mem_append.mp ha with ha | ha
      · exact hG.above a ha
      · rw [List.mem_singleton.mp ha]
        exact hls
    · intro j b hj
      rcases Nat.lt_trichotomy j as.length with g1 | g1 | g1
      · rw [List.getElem?_append_left g1] at hj
        obtain ⟨x, y, e1, e2, e3⟩ := hG.pairs j b hj
        have d := hG.above b (List.mem_of_getElem? hj)
        exact ⟨x, y, e1, e2, both b _ (Nat.ne_of_gt (Nat.lt_of_lt_of_le hlo d)) (Nat.ne_of_gt (Nat.lt_of_lt_of_le hfz.1 d)) (Nat.ne_of_gt (Nat.lt_of_lt_of_le hfz.2.1 d)) (Nat.ne_of_gt (Nat.lt_of_lt_of_le hfz.2.2.1 d)) (Nat.ne_of_gt (Nat.lt_of_lt_of_le hfz.2.2.2 d)) e3⟩
      · subst g1
        have hb : h.objs.size = b := by simpa using hj
        subst hb
        exact ⟨xs[as.length]'(by omega), ys[as.length]'(by omega), Array.getElem?_eq_getElem _, Array.getElem?_eq_getElem _, by have := up _ _ hTn hT; subst hal; exact this⟩
      · have hnone : (as ++ [h.objs.size])[j]? = none := List.getElem?_eq_none (by rw [List.length_append, List.length_singleton]; omega)
        rw [hnone] at hj
        cases hj
theorem zip_len_none : typeLookup (.type "zip") "__len__" = pure none := am_miss_of_fast (by decide +kernel)
theorem zip_hint_none : typeLookup (.type "zip") "__length_hint__" = pure none := am_miss_of_fast (by decide +kernel)
theorem zip_extend {z TI TO i1 i2 l1 l2 S : Addr} {xs ys : Array Value} {R : Result → Shared → Prop} {lo : Addr} (hh : A.handled = none) (D : ZipApart z TI TO i1 i2 l1 l2) (hS : S ≠ z ∧ S ≠ TI ∧ S ≠ TO ∧ S ≠ i1 ∧ S ≠ i2) (hSl : S ≠ l1 ∧ S ≠ l2) (hxy : xs.size = ys.size) (hn : xs.size ≤ sizeLine) (res : Value)
    (hlo : S < lo) (hfz : z < lo ∧ TO < lo ∧ i1 < lo ∧ i2 < lo) (hle : lo ≤ s.heap.objs.size) (hz : IsZip s.heap z TI TO .none) (st : ZS s.heap z TI TO i1 i2 l1 l2 0) (hl1 : s.heap.IsTuple l1 xs) (hl2 : s.heap.IsTuple l2 ys) (c0 : Nat) (hS0 : s.heap.get? S = some { cls := .type "list", data := .seq #[] c0 })
    (hR : ∀ h' acc c as, (∀ b o, b ≠ S → b ≠ z → b ≠ TO → b ≠ i1 → b ≠ i2 → s.heap.get? b = some o → h'.get? b = some o) → h'.get? S = some { cls := .type "list", dict := none, data := .seq acc c, slots := #[] } → as.length = xs.size → Pairs xs ys lo h' as → acc.toList = as.map Value.ref → R (.ok (.ret res)) { s with heap := h' }) :
    wpAny (model prog w) A.in1 (Builtin.List.listExtendWith (.ref S) (.ref z) res)
      (fun fin s' => match fin with | .done f => R (.ok f) s' | .again c' => c'.quiet = true ∧ codeAny (model prog w) A c' R s') (fun e s' => R (.error e) s') s := by
  have hTy : s.TypeIs (.ref z) "zip" := st.ty
  unfold Builtin.List.listExtendWith
  refine wpAny_bind (wpAny_typeOf (T := "zip") hTy ?_)
  have g1 : Builtin.List.listSameRef (.ref S) (.ref z) = false := by simp [Builtin.List.listSameRef, hS.1]
  have g2 : (Value.type "zip" == Value.type "list") = false := by decide
  have g3 : (Value.type "zip" == Value.type "tuple") = false := by decide
  simp only [g1, g2, g3, Bool.or_false, Bool.false_eq_true, if_false]
  refine wpAny_bind (wpAny_pyIter_zip hz ?_)
  refine wpAny_bind (wpAny_holding ?_)
  unfold Builtin.List.listLengthHint
  refine wpAny_bind (wpAny_specialOf hTy zip_len_none ?_)
  show wpAny _ _ (specialOf (Value.ref z) (Str.ofString "__length_hint__") >>= _) _ _ _
  refine wpAny_bind (wpAny_specialOf hTy zip_hint_none ?_)
  refine wpAny_pure ?_
  show wpAny _ _ (rule "list.extend.makes-room" >>= fun _ => Builtin.List.listTouch (.ref S) >>= fun _ => again (.builtin "list.extend.loop" ⟨[.ref S, .ref z, res], []⟩)) _ _ _
  refine wpAny_bind (wpAny_rule ?_)
  refine wpAny_bind ?_
  show wpAny _ _ (updateSeq S (·.push .none) >>= fun _ => updateSeq S (·.pop)) _ _ _
  refine wpAny_bind (wpAny_updateSeq hS0 rfl ?_)
  have hS2 := Heap.get?_update_self (Obj.mapSeq (·.push Value.none)) hS0 rfl
  refine wpAny_updateSeq (hz := by seq_fits) hS2 rfl ?_
  have hS3 := Heap.get?_update_self (Obj.mapSeq (·.pop)) hS2 rfl
  have oth : ∀ b o, b ≠ S → s.heap.get? b = some o → ((s.heap.update S (Obj.mapSeq (·.push Value.none))).update S (Obj.mapSeq (·.pop))).get? b = some o := fun b o hb e => (Heap.get?_update_other _ _ (Ne.symm hb)).trans ((Heap.get?_update_other _ _ (Ne.symm hb)).trans e)
  refine wpAny_pure ⟨plainId_quiet F.plain_extend_loop _, zip_loop (s := s) (h0 := s.heap) (lo := lo) hh D hS hSl hxy hn res hlo hfz hR xs.size 0 _ _ #[] [] (Nat.sub_zero _) (Nat.zero_le _) (st.keep hS oth ⟨_, hS3⟩) ?_ ?_ ?_ (fun b o b1 _ _ _ _ e => oth b o b1 e) hS3 rfl rfl ⟨List.Pairwise.nil, (fun _ ha => nomatch ha), fun j a hj => by simp at hj⟩⟩
  · obtain ⟨o, ho, r⟩ := hl1
    exact ⟨o, oth _ _ hSl.1.symm ho, r⟩
  · obtain ⟨o, ho, r⟩ := hl2
    exact ⟨o, oth _ _ hSl.2.symm ho, r⟩
  · have e : ((s.heap.update S (Obj.mapSeq (·.push Value.none))).update S (Obj.mapSeq (·.pop))).objs.size = s.heap.objs.size := by
      first
        | rw [Heap.size_update, Heap.size_update]
        | simp [Heap.update]
    rw [e]
    exact hle
/-- list(z) for such a zip -/
theorem zip_list {z TI TO i1 i2 l1 l2 : Addr} {xs ys : Array Value} {Q : Value → Shared → Prop} (hh : A.handled = none) (D : ZipApart z TI TO i1 i2 l1 l2) (hxy : xs.size = ys.size) (hn : xs.size ≤ sizeLine)
    (hfz : z < s.heap.objs.size ∧ TI < s.heap.objs.size ∧ TO < s.heap.objs.size ∧ i1 < s.heap.objs.size ∧ i2 < s.heap.objs.size) (hz : IsZip s.heap z TI TO .none) (st : ZS s.heap z TI TO i1 i2 l1 l2 0) (hl1 : s.heap.IsTuple l1 xs) (hl2 : s.heap.IsTuple l2 ys)
    (hQ : ∀ h' acc c as, (∀ b o, b ≠ z → b ≠ TO → b ≠ i1 → b ≠ i2 → s.heap.get? b = some o → h'.get? b = some o) → h'.get? s.heap.objs.size = some { cls := .type "list", dict := none, data := .seq acc c, slots := #[] } → as.length = xs.size → Pairs xs ys (s.heap.objs.size + 1) h' as → acc.toList = as.map Value.ref → Q (.ref s.heap.objs.size) { s with heap := h' }) :
    wpAny (model prog w) A (call (.type "list") [.ref z]) Q E s := by
  refine callType_codes (Q₁ := fun obj s1 => obj = .ref s.heap.objs.size ∧ s1 = { s with heap := s.heap.push { cls := .type "list", data := .seq #[] } }) F.called_list (F.typeCall_list_1 _) F.entry_list_init (code_list_new _ ⟨rfl, rfl⟩) fun obj s1 hs1 => ?_
  obtain ⟨rfl, rfl⟩ := hs1
  have hS : (s.heap.push { cls := .type "list", data := .seq #[] }).get? s.heap.objs.size = some { cls := .type "list", data := .seq #[] } := Heap.get?_push_size _ rfl
  refine ⟨⟨_, hS, rfl⟩, F.args_list_init_2 _ _, ?_⟩
  show wpAny _ _ (do let old ← Builtin.List.listItems (.ref s.heap.objs.size); Builtin.List.listUpdate (.ref s.heap.objs.size) (fun _ => #[]); letGo old.toList.reverse; Builtin.List.listExtendWith (.ref s.heap.objs.size) (.ref z) .none) _ _ _
  refine wpAny_bind ?_
  unfold Builtin.List.listItems
  refine wpAny_bind (wpAny_seqItems hS rfl (wpAny_pure ?_))
  show wpAny _ _ (updateSeq s.heap.objs.size (fun _ => #[]) >>= fun _ => letGo (#[] : Array Value).toList.reverse >>= fun _ => Builtin.List.listExtendWith (.ref s.heap.objs.size) (.ref z) .none) _ _ _
  refine wpAny_bind (wpAny_updateSeq hS rfl ?_)
  have hS2 := Heap.get?_update_self (Obj.mapSeq (fun _ => (#[] : Array Value))) hS rfl
  have oth : ∀ b o, s.heap.get? b = some o → ((s.heap.push { cls := .type "list", data := .seq #[] }).update s.heap.objs.size (Obj.mapSeq (fun _ => (#[] : Array Value)))).get? b = some o :=
    fun b o e => (Heap.get?_update_other _ _ (Nat.ne_of_gt (Heap.lt_size e))).trans (Heap.get?_push_of_some _ e)
  refine wpAny_bind (wpAny_letGo ?_)
  have hsz2 : ((s.heap.push { cls := .type "list", data := .seq #[] }).update s.heap.objs.size (Obj.mapSeq (fun _ => (#[] : Array Value)))).objs.size = s.heap.objs.size + 1 := by rw [Heap.size_update, Heap.size_push]
  generalize hH2 : (s.heap.push { cls := .type "list", data := .seq #[] }).update s.heap.objs.size (Obj.mapSeq (fun _ => (#[] : Array Value))) = H2 at hS2 oth hsz2 ⊢
  have lt1 : s.heap.objs.size < s.heap.objs.size + 1 := Nat.lt_succ_self _
  have hl1' : l1 < s.heap.objs.size := by
    obtain ⟨o, ho, _⟩ := hl1
    exact Heap.lt_size ho
  have hl2' : l2 < s.heap.objs.size := by
    obtain ⟨o, ho, _⟩ := hl2
    exact Heap.lt_size ho
  obtain ⟨f1, f2, f3, f4, f5⟩ := hfz
  have nS : s.heap.objs.size ≠ z ∧ s.heap.objs.size ≠ TI ∧ s.heap.objs.size ≠ TO ∧ s.heap.objs.size ≠ i1 ∧ s.heap.objs.size ≠ i2 := ⟨Nat.ne_of_gt f1, Nat.ne_of_gt f2, Nat.ne_of_gt f3, Nat.ne_of_gt f4, Nat.ne_of_gt f5⟩
  refine zip_extend (s := { s with heap := H2 }) (A := A.in1) (lo := s.heap.objs.size + 1) (l1 := l1) (l2 := l2) (xs := xs) (ys := ys) hh D nS ⟨Nat.ne_of_gt hl1', Nat.ne_of_gt hl2'⟩ hxy hn .none lt1 ⟨Nat.lt_succ_of_lt f1, Nat.lt_succ_of_lt f3, Nat.lt_succ_of_lt f4, Nat.lt_succ_of_lt f5⟩ (Nat.le_of_eq hsz2.symm) (oth _ _ hz) (st.keep nS (fun b o _ e => oth b o e) ⟨_, hS2⟩) ?_ ?_ _ hS2 ?_
  · obtain ⟨o, ho, r⟩ := hl1
    exact ⟨o, oth _ _ ho, r⟩
  · obtain ⟨o, ho, r⟩ := hl2
    exact ⟨o, oth _ _ ho, r⟩
  · intro h' acc c as hk hSg hl hP hacc
    exact ⟨rfl, hQ h' acc c as (fun b o b2 b3 b4 b5 e => hk b o (Nat.ne_of_lt (Heap.lt_size e)) b2 b3 b4 b5 (oth b o e)) hSg hl hP hacc⟩
end
end Gm
/-! list(zip(xs, ys)) of two tuples, as a rule. -/
namespace Gm
open PySem PySem.Spec PyProof.Rows L2 RZ
/-- pairs told at their addresses -/
def putP (H : Hp) : List Addr → List (V × V) → Hp
  | a :: as, p :: ps => upd (putP H as ps) a (.tup [p.1, p.2])
  | _, _ => H
theorem putP_off {H : Hp} {b : Addr} : ∀ {as : List Addr} {ps : List (V × V)}, b ∉ as → putP H as ps b = H b
  | [], _, _ => by
    unfold putP
    rfl
  | _ :: _, [], _ => rfl
  | a :: as, p :: ps, h => by
    show upd (putP H as ps) a (.tup [p.1, p.2]) b = H b
    rw [upd_ne (fun e => h (by rw [e]; exact List.mem_cons_self ..)), putP_off fun z => h (List.mem_cons_of_mem _ z)]
theorem putP_at {H : Hp} : ∀ {as : List Addr} {ps : List (V × V)} {j : Nat} {a : Addr} {p : V × V}, as.Nodup → as[j]? = some a → ps[j]? = some p → putP H as ps a = some (.tup [p.1, p.2])
  | b :: as, q :: ps, 0, a, p, _, e1, e2 => by
    cases Option.some.inj e1
    cases Option.some.inj e2
    exact upd_same
  | b :: as, q :: ps, j + 1, a, p, nd, e1, e2 => by
    have e1' : as[j]? = some a := e1
    have nd' := List.nodup_cons.mp nd
    show upd (putP H as ps) b (.tup [q.1, q.2]) a = _
    rw [upd_ne (fun e => nd'.1 (by rw [← e]; exact List.mem_of_getElem? e1'))]
    exact putP_at nd'.2 e1' e2
def tListZip (K : Frag) (tas : TA) : TE := fun σ H Q => tas σ H fun vs H1 => ∃ a b xs ys, vs = [.ref a, .ref b] ∧ SqT K H1 a xs ∧ SqT K H1 b ys ∧ xs.length = ys.length ∧
  ∀ (H' : Hp) (p : Addr) (ts : List Addr), Same H1 H' → H1 p = none → p ∉ ts → H' p = some (.lst (ts.map V.ref)) → ts.length = xs.length → (∀ (j : Nat) (t : Addr), ts[j]? = some t → ∃ x y, xs[j]? = some x ∧ ys[j]? = some y ∧ H' t = some (.tup [x, y])) → Q (.ref p) H'
section
variable {X : Cx} {pn : List (Addr × Obj)} {σ : L2.St} {H : Hp} {s : Shared}
theorem refs_vals : ∀ as : List Addr, Vals (as.map V.ref) (as.map Value.ref)
  | [] => .nil
  | _ :: as => .cons rfl (refs_vals as)
theorem pairs_laid {h' : Heap} {xs ys : List V} {us ws : List Value} {acc : Array Value} {c : Nat} {as : List Addr} {S lo : Addr} (I : Inv X pn σ H s) (hz : xs.length ≤ sizeLine) (hxy : xs.length = ys.length) (rx : Vals xs us) (ry : Vals ys ws)
    (hk : ∀ b o, s.heap.get? b = some o → h'.get? b = some o) (hSz : s.heap.objs.size ≤ S) (hlo : S < lo) (hS : h'.get? S = some { cls := .type "list", dict := none, data := .seq acc c, slots := #[] }) (hl : as.length = xs.length) (hP : Pairs us.toArray ws.toArray lo h' as) (hacc : acc.toList = as.map Value.ref) :
    ∃ H' : Hp, Same H H' ∧ H S = none ∧ S ∉ as ∧ H' S = some (.lst (as.map V.ref)) ∧ (∀ (j : Nat) (t : Addr), as[j]? = some t → ∃ x y, xs[j]? = some x ∧ ys[j]? = some y ∧ H' t = some (.tup [x, y])) ∧ Inv X pn σ H' { s with heap := h' } := by
  have hSn : S ∉ as := fun z => absurd (hP.above _ z) (Nat.not_le_of_gt hlo)
  have nd : as.Nodup := List.Pairwise.imp (fun {a b} (h : a < b) => Nat.ne_of_lt h) hP.rise
  have big : ∀ t ∈ as, s.heap.objs.size ≤ t := fun t ht => Nat.le_trans hSz (Nat.le_of_lt (Nat.lt_of_lt_of_le hlo (hP.above t ht)))
  have new : ∀ t ∈ as, H t = none := fun t ht => I.hok.fresh (big t ht)
  have newS : H S = none := I.hok.fresh hSz
  have items : ∀ {j : Nat} {t : Addr}, as[j]? = some t → ∃ x y, xs[j]? = some x ∧ ys[j]? = some y ∧ (xs.zip ys)[j]? = some (x, y) := fun {j t} e => by
    have hj : j < as.length := (List.getElem?_eq_some_iff.mp e).1
    refine ⟨xs[j]'(by omega), ys[j]'(by omega), List.getElem?_eq_getElem _, List.getElem?_eq_getElem _, ?_⟩
    rw [List.getElem?_zip_eq_some]
    exact ⟨List.getElem?_eq_getElem _, List.getElem?_eq_getElem _⟩
  have off : ∀ b, b ∉ as → b ≠ S → putP (upd H S (.lst (as.map V.ref))) as (xs.zip ys) b = H b := fun b h1 h2 => by rw [putP_off h1, upd_ne h2]
  have low : ∀ b o, s.heap.get? b = some o → b ∉ as ∧ b ≠ S := fun b o e => ⟨fun z => absurd (Heap.lt_size e) (Nat.not_lt.mpr (big b z)), fun z => absurd (Heap.lt_size e) (Nat.not_lt.mpr (by rw [z]; exact hSz))⟩
  have kp : ∀ b u, H b = some u → (putP (upd H S (.lst (as.map V.ref))) as (xs.zip ys)) b = some u := fun b u e => by
    rw [off b (fun z => by rw [new b z] at e; cases e) (fun z => by rw [z, newS] at e; cases e)]
    exact e
  have eS : putP (upd H S (.lst (as.map V.ref))) as (xs.zip ys) S = some (.lst (as.map V.ref)) := by rw [putP_off hSn, upd_same]
  refine ⟨putP (upd H S (.lst (as.map V.ref))) as (xs.zip ys), kp, newS, hSn, eS, fun j t e => ?_, ?_⟩
  · obtain ⟨x, y, e1, e2, e3⟩ := items e
    exact ⟨x, y, e1, e2, putP_at nd e e3⟩
  refine I.call' (ch := []) rfl ⟨fun b o q _ _ _ => hk b o q, fun b o q _ _ _ => ⟨o.slots, hk b o q⟩, fun b o q n _ => ?_, fun b o q _ => ⟨o, hk b o q⟩, fun b xs q => kp b _ q, fun b o u q => kp b _ q, fun b ps q => ⟨#[], by rw [kp b _ q]; simp⟩⟩ (fun b u q => ?_) I.bare fun b z => by simp at z
  · obtain ⟨z1, z2⟩ := low b o q
    rw [off b z1 z2]
    exact n
  · by_cases hb : b ∈ as
    · obtain ⟨j, ej⟩ := List.getElem?_of_mem hb
      obtain ⟨x, y, e1, e2, e3⟩ := items ej
      rw [putP_at nd ej e3] at q
      cases q
      obtain ⟨x', y', f1, f2, f3⟩ := hP.pairs j b ej
      obtain ⟨u1, g1, r1⟩ := rx.get e1
      obtain ⟨u2, g2, r2⟩ := ry.get e2
      have f1' : us[j]? = some x' := by simpa using f1
      have f2' : ws[j]? = some y' := by simpa using f2
      rw [g1] at f1'
      rw [g2] at f2'
      cases f1'
      cases f2'
      exact ⟨by show 2 ≤ sizeLine; decide, [_, _], .cons r1 (.cons r2 .nil), ⟨_, f3, rfl, _, rfl⟩⟩
    · by_cases hb2 : b = S
      · rw [hb2] at q ⊢
        rw [eS] at q
        cases q
        refine ⟨by rw [List.length_map]; omega, acc.toList, c, by rw [hacc]; exact refs_vals as, ?_⟩
        rw [Array.toArray_toList]
        exact hS
      · rw [off b hb hb2] at q
        exact (I.hok b u q).stay (fun d v _ y => hk d v y) (fun d y => kp d _ y) fun d xs y => kp d _ y
end
section
variable {X : Cx} {e e2 : Expr} {tas : TA} {p q pos zpos : Pos}
/-- list(zip(e, e2)) -/
theorem pe_listZip (hc : X.calm = true) (hg : Gl X "list") (hm : X.mg "list" = none) (hgz : Gl X "zip") (hmz : X.mg "zip" = none) (ha : PA X [e, e2] tas)
    (hs : starEach [.Call (.Name "zip" q) [e, e2] [] zpos] X.env = (false, eval (.Call (.Name "zip" q) [e, e2] [] zpos) X.env) :: starEach [] X.env := by rfl)
    (hz : starEach [e, e2] X.env = (false, eval e X.env) :: starEach [e2] X.env := by rfl) (hpl : (backTo zpos (starEach [e2] X.env)).any (·.1) = false := by rfl) :
    PE X (.Call (.Name "list" p) [.Call (.Name "zip" q) [e, e2] [] zpos] [] pos) (tListZip X.K tas) := by
  refine ⟨fun pn sh σ H Q I h => ?_⟩
  have hv : bootBuiltins "list" = some (.type "list") := by decide +kernel
  refine wpAny_Call_Name_kw (ld_blt I hg hm hv ?_)
  refine PyProof.Rows.callWith_type1 ?_ hs rfl
  rw [hs]
  show wpAny _ _ (spliced ((false, eval (.Call (.Name "zip" q) [e, e2] [] zpos) X.env) :: backTo pos (starEach [] X.env))) _ _ sh
  refine Calls.spliced_cons ?_
  refine Call_ (ld_blt I hgz hmz PyProof.Rows.boot_zip (PyProof.Rows.callWith_type1 (thn (ha.run zpos pn sh σ H _ I h) fun argv sA ⟨vs, H1, J, rel, post⟩ => ?_) hz hpl))
  obtain ⟨a, b, xs, ys, ex, hqx, hqy, hxy, post⟩ := post
  subst ex
  cases rel with
  | cons rel1 rr =>
    cases rr with
    | cons rel2 rr =>
      cases rr
      cases rel1
      cases rel2
      obtain ⟨us, rvx, p1, hlx⟩ := J.tuple hqx
      obtain ⟨ws, rvy, p2, hly⟩ := J.tuple hqy
      obtain ⟨o1, ho1, _⟩ := id p1
      obtain ⟨o2, ho2, _⟩ := id p2
      refine call_zipT (show sA.heap.IsTuple a us.toArray from p1) (show sA.heap.IsTuple b ws.toArray from p2) fun h' hzz hTI hTO h1 h2 hsz hk => ?_
      refine Calls.spliced_nil ?_
      have lx := rvx.length
      have ly := rvy.length
      have ap := PySem.W.ktu_apart sA.heap.objs.size a b (Heap.lt_size ho1) (Heap.lt_size ho2)
      have low : ∀ c o, sA.heap.get? c = some o → c ≠ sA.heap.objs.size + 4 ∧ c ≠ sA.heap.objs.size + 3 ∧ c ≠ sA.heap.objs.size ∧ c ≠ sA.heap.objs.size + 1 := fun c o e => by
        have d : c < sA.heap.objs.size := Heap.lt_size e
        exact ⟨Nat.ne_of_lt (Nat.lt_add_right 4 d), Nat.ne_of_lt (Nat.lt_add_right 3 d), Nat.ne_of_lt d, Nat.ne_of_lt (Nat.lt_add_right 1 d)⟩
      have five : ∀ k : Nat, k < 5 → sA.heap.objs.size + k < h'.objs.size := fun k hk5 => by
        rw [hsz]
        exact Nat.add_lt_add_left hk5 _
      refine zip_list (s := { sA with heap := h' }) (xs := us.toArray) (ys := ws.toArray) (J.ok.hd hc) ap (by simp; omega) (by rw [List.size_toArray, ← lx]; exact hlx) ⟨five 4 (by decide), five 2 (by decide), five 3 (by decide), five 0 (by decide), five 1 (by decide)⟩ hzz ⟨hTI, h1, h2, .inl ⟨hzz, _, _, hTO⟩⟩ ?_ ?_ fun h3 acc c as hk3 hS3 hl3 hP3 hacc3 => ?_
      · exact (show sA.heap.IsTuple a us.toArray from p1).imp fun o r => ⟨hk _ _ r.1, r.2⟩
      · exact (show sA.heap.IsTuple b ws.toArray from p2).imp fun o r => ⟨hk _ _ r.1, r.2⟩
      · have hk4 : ∀ b o, sA.heap.get? b = some o → h3.get? b = some o := fun b o e => by
          obtain ⟨q1, q2, q3, q4⟩ := low b o e
          exact hk3 b o q1 q2 q3 q4 (hk b o e)
        obtain ⟨H', k1, k2, k3, k4, k5, J3⟩ := pairs_laid (S := h'.objs.size) (lo := h'.objs.size + 1) J hlx hxy rvx rvy hk4 (Nat.le_of_lt (five 0 (by decide))) (Nat.lt_succ_self _) hS3 (by rw [hl3, List.size_toArray, lx]) hP3 hacc3
        exact ⟨.ref h'.objs.size, H', J3, rfl, post H' _ as k1 k2 k3 k4 (by rw [hl3, List.size_toArray, lx]) k5⟩
end
end Gm
/-! An own class walked, whose __iter__ answers iter of a tuple. -/
namespace Gm
open PySem PySem.Spec PyProof.Rows L2
/-- what a def promises where the heap has at least n places -/
structure FnAt (n : Nat) (P : Program) (w : World) (K : PySem.W.Frag) (mg : Str → Option Value) (base : Heap) (k : Nat) (f : Addr) (fd : FuncData) (ps : List Str) (sp : Sp) : Prop where
  len : ∀ vs H Q E, sp vs H Q E → vs.length = ps.length
  run : ∀ (A : Around) (outer : List Env) (s : Shared) (H : Hp) (args : Args) (us : List Value) (vs : List V) (Q : VK) (E : XK), n ≤ s.heap.objs.size → Room k A → Env0 P w K mg base A outer s H → BindsTo s fd args (ps.zip us) → Vals vs us → sp vs H Q E →
    codeAny (model P w) A (.call (.ref f) args) (CR CX0 outer P w H s Q E) s
theorem fn_at {n : Nat} {P : Program} {w : World} {K : PySem.W.Frag} {mg : Str → Option Value} {base : Heap} {k : Nat} {x qual : Str} {st : Stmt} {f : Addr} {fd : FuncData} {N ps : List Str} {sp : Sp} (F : Fun K x qual st f fd) (S : FnScope N ps (defScope st))
    (len : ∀ vs H Q E, sp vs H Q E → vs.length = ps.length)
    (body : ∀ (cdv : Value) (A : Around) (outer : List Env) (s : Shared) (H : Hp) (vs : List V) (Q : VK) (E : XK), n ≤ s.heap.objs.size → Room k (A.deeper (envOfC qual (defScope st) s.heap.objs.size f cdv)) → sp vs H Q E →
      ∃ t, PSs (cxOf CX0 P w K mg base N qual (defScope st) f cdv A outer s H E) (defBody st) t ∧ t { nx := fun _ H' => Q .non H', rt := Q } (start N vs) H) : FnAt n P w K mg base (k + 1) f fd ps sp := by
  obtain ⟨oc, od, kV, doc, pm, an, cdv, ct, osl, rfl, lk, hcd⟩ := F.ex
  refine ⟨len, fun A outer s H args us vs Q E hn hr e0 hb r q => ?_⟩
  have hl := len _ _ _ _ q
  have XK := e0.mod.kin.keeps fun b o e => (e0.bs b o e).1
  have lim := e0.mod.nolimit.keeps fun b o e => (e0.bs b o e).1
  have kinds : ∀ y ∈ ps.zip us, (defScope st).names.lookup y.1 = some .local ∨ ((defScope st).names.lookup y.1 = some .cell ∧ ((cellsFrom (s.heap.objs.size + 1) (defScope st).names []).lookup y.1).isSome = true) := fun ⟨m, v⟩ hy => (S.par m (List.of_mem_zip hy).1).imp id fun c => ⟨c, PySem.W.cellsFrom_some _ _ _ (.inl c)⟩
  refine codeAny_call_function hr.depth (XK _ _ lk) rfl S.co S.gen rfl (PySem.W.codeRec_of XK hcd) (hb _ _ _ _ ?_)
  refine wpAny_newFunctionEnv_cells S.kind kinds fun env he s1 xc => ?_
  subst he
  refine ⟨lim.keeps xc.toInCall.keep, codeAny_func ?_⟩
  obtain ⟨t, ht, hq⟩ := body cdv A outer s H vs Q E hn (hr.deeper _) q
  have I0 := inv_start (CX := CX0) (E := E) S hr.hd e0 hl r xc
  refine wpAny_mono (ht.run [] s1 (start N vs) H _ I0 hq) (fun fl s' z => ?_) fun e s' z => z
  match fl, z with
  | .ret u, z =>
    obtain ⟨v, σ', H', J, rv, q⟩ := z
    exact ⟨v, H', J.os, J.bare, J.base, J.hok, rv, q⟩
  | .next, z =>
    obtain ⟨σ', H', J, q⟩ := z
    exact ⟨V.non, H', J.os, J.bare, J.base, J.hok, rfl, q⟩
  | .brk, z =>
    obtain ⟨_, _, _, q⟩ := z
    exact False.elim q
  | .cont, z =>
    obtain ⟨_, _, _, q⟩ := z
    exact False.elim q
/-! ### iter of a tuple -/
def ItT (l it : Addr) : HO := .ext fun h => h.get? it = some { cls := .type "tuple_iterator", data := .fields #[.ref l, .int 0 0] }
theorem itT_ok {P : Program} {w : World} {H : Hp} {h : Heap} {l it : Addr} (e : h.get? it = some { cls := .type "tuple_iterator", data := .fields #[.ref l, .int 0 0] }) : ObjOk P w H h it (ItT l it) := ⟨e, ⟨_, e⟩, fun h1 h2 q k => k _ q⟩
def rIterT (K : PySem.W.Frag) (n : Nat) : List V → Hp → VK → Prop := fun xs H Q => ∃ (l : Addr) (zs : List V), xs = [.ref l] ∧ SqT K H l zs ∧ ∀ it, H it = none → n ≤ it → Q (.ref it) (upd H it (ItT l it))
section
variable {X : Cx}
theorem call_iterT : CallR X (.builtin "iter") (rIterT X.K X.s_0.heap.objs.size) := by
  intro pn sh σ H xs argv Q I r h
  obtain ⟨l, zs, rfl, hq, q⟩ := h
  obtain ⟨u, rfl, ru⟩ := vals1 r
  cases ru
  obtain ⟨vals, rv, pl, hz⟩ := I.tuple hq
  refine Calls.call_function_entry (by decide +kernel) (by decide +kernel) PySem.W.kdk_entry_iter (PySem.W.kdk_args_iter _) ?_
  unfold Builtin.«iter»
  refine wpAny_bind (m := someArgs "iter" 1 2 _) (wpAny_of_eq (a := [Value.ref l]) (by first | rfl | kernel_rfl!) ?_)
  show wpAny _ _ (pyIter (.ref l) >>= _) _ _ _
  refine wpAny_bind (wpAny_pyIter_tuple (show sh.heap.IsTuple l vals.toArray from pl) ?_)
  refine wpAny_pure ⟨_, rfl, ?_⟩
  exact ⟨.ref sh.heap.objs.size, _, I.laid (t' := sh.toks) (fun b u e => Heap.get?_push_of_some _ e) (Nat.le_refl _) (itT_ok (Heap.get?_push_size _ rfl)), rfl, q _ (I.hok.fresh (Nat.le_refl _)) I.sz⟩
end
theorem drop_upd {H : Hp} {a : Addr} {o : HO} (h : H a = none) : ItX.dropH (upd H a o) a = H := ItX.dropH_upd h
section
variable {X : Cx} {tg e : Expr} {te : TE} {C f : Addr} {fd : FuncData} {ps : List Str} {k : Nat} {sp : Sp}
/-- e, of an own class, walked by what its __iter__ answers: iter of a tuple -/
def iOwnT (K : PySem.W.Frag) (n : Nat) (C : Addr) (sp : Sp) (te : TE) : TI := fun σ H R => te σ H fun x H1 => ∃ a dx fs, x = .ref a ∧ H1 a = some (.ins C dx fs) ∧
  sp [.ref a] H1 (fun v H2 => ∃ it l, v = .ref it ∧ H2 it = some (ItT l it) ∧ n ≤ it ∧ R (Itt K l) (ItX.dropH H2 it)) L2.E0
theorem pi_ownT (hs : PySem.W.findIn X.K (.ref C) "__iter__" = some (some (.ref f))) (hf : PySem.W.isFn X.K (.ref f) = true) (F : FnAt X.s_0.heap.objs.size X.prog X.w X.K X.mg X.base k f fd ps sp) (hr : Room k X.A) (hb : Binds X.K fd ps []) (he : PE X e te) :
    PI X tg e (iOwnT X.K X.s_0.heap.objs.size C sp te) := by
  refine ⟨fun pn sh σ H R I h => ?_⟩
  refine thn (he.run pn sh σ H _ I h) fun u sA ⟨v, H1, J, rel, q⟩ => ?_
  obtain ⟨a, dx, fs, rfl, ha, q⟩ := q
  cases rel
  obtain ⟨od, Ja⟩ := inst_of J ha
  obtain ⟨m, hF⟩ := J.fr
  refine PySem.W.owit_iter hF J.ok.mod.kin Ja hs hf ?_
  have hl := F.len _ _ _ _ q
  have bnd := hb sA [.ref a] J.kIn (by simpa using hl)
  refine wpAny_call (codeAny_mono (F.run X.A X.stack sA H1 ⟨[.ref a], []⟩ [.ref a] [.ref a] _ _ J.sz hr J.env0 (by simpa using bnd) (.cons rfl .nil) q) fun r s' z => ?_)
  match r, z with
  | .error er, z => exact z.elim
  | .ok .next, z => exact False.elim z
  | .ok .brk, z => exact False.elim z
  | .ok .cont, z => exact False.elim z
  | .ok (.ret w), z =>
    obtain ⟨v2, H2, J2, rel2, it, l, rfl, hit, hn, q2⟩ := J.after z
    cases rel2
    have eo := (J2.hok it _ hit).1
    have ty : s'.TypeIs (.ref it) "tuple_iterator" := ⟨_, eo, rfl⟩
    show PySem.W.OwitIt _ _ _ _ (.ref it) s'
    unfold PySem.W.OwitIt
    refine wpAny_specialOf (name := Str.ofString "__next__") ty PySem.F.slot_tuple_iterator_next.lookup ?_
    have hit' := hit
    unfold ItT at hit'
    refine ⟨it, [it], _, _, ItX.dropH H2 it, rfl, ItX.inv_drop J2 hit', turn_tuple l it, ⟨_, eo, rfl, rfl⟩, fun b hb => ?_, q2⟩
    have e : b = it := by simpa using hb
    rw [e]
    exact ItX.inv_fp J2 hit hn
end
end Gm
/-! x == t: an own class with its own ==, and a tuple. -/
namespace Gm
open PySem PySem.Spec PyProof.Rows L2
section
variable {X : Cx} {C f : Addr} {fd : FuncData} {ps : List Str} {CX : CXT} {k : Nat} {sp : Sp} {E : XK}
def rOwnCmpT (K : Frag) (C : Addr) (sp : Sp) (E : XK) : R2 := fun x y H Q => ∃ a b dx fs xs, x = .ref a ∧ y = .ref b ∧ H a = some (.ins C dx fs) ∧ SqT K H b xs ∧ sp [x, y] H Q E
theorem op_ownCmpT (hs : PySem.W.findIn X.K (.ref C) "__eq__" = some (some (.ref f))) (hf : PySem.W.isFn X.K (.ref f) = true) (hnf : PySem.W.notFirst X.K C (.type "tuple") = true)
    (F : FnOk X.prog X.w X.K X.mg X.base CX k f fd ps sp) (hr : Room k X.A) (hb : Binds X.K fd ps []) (hx : Passes CX X E) : OpR X (compareOp .Eq) (rOwnCmpT X.K C sp E) := by
  intro pn sg σ H x y v u Q I rx ry h
  obtain ⟨a, b, dx, fs, xs, rfl, rfl, ha, hq, q⟩ := h
  cases rx
  cases ry
  obtain ⟨od, J⟩ := inst_of I ha
  obtain ⟨vals, rv, pt, _⟩ := I.tuple hq
  obtain ⟨o, ho, hc, _⟩ := id pt
  obtain ⟨m, hF⟩ := I.fr
  show wpAny _ _ (richCompare .Eq (.ref a) (.ref b)) _ _ _
  refine PySem.W.cmp_K (op := .Eq) (tb := .type "tuple") hr.units0 hF I.ok.mod.kin J ?_ hnf hs hf ?_
  · exact hc ▸ (PySem.W.Looks.ld ho).andThen .now
  refine wpAny_mono (run_fn (us := [.ref a, .ref b]) (vs := [.ref a, .ref b]) F hr hb .nil hx I (.cons rfl (.cons rfl .nil)) q) (fun w s' z => ?_) fun _ _ z => z
  obtain ⟨zR, HR, IR, relZ, postZ⟩ := z
  exact SlX.cmpback relZ ⟨zR, HR, IR, relZ, postZ⟩
end
end Gm
/-! c != None, c of an own class that has only its own == -/
namespace Gm
open PySem PySem.Spec PyProof.Rows L2
section
variable {prog : Program} {w : World} {A : Around} {E : Value → Shared → Prop} {s : Shared} {K : PySem.W.Frag} {x C f : Addr} {ox : Obj} {od : Option Obj}
theorem objNeV_body {yv : Value} {Q : Fin → Shared → Prop} (X : K.In s.heap) (J : PySem.W.InstAt s.heap x ox C od) (hs : PySem.W.findIn K (.ref C) "__eq__" = some (some (.ref f))) (hf : PySem.W.isFn K (.ref f) = true) (hu : A.units < cLine)
    (h : wpAny (model prog w) A (call (.ref f) [.ref x, yv]) (fun v s' => ∃ b, v = Value.bool b ∧ Q (.done (.ret (.bool (!b)))) s') E s) : wpAny (model prog w) A (Builtin.«object.__ne__» ⟨[.ref x, yv], []⟩) Q E s := by
  unfold Builtin.«object.__ne__»
  repeat (first
    | with_reducible refine wpAny_cRoomFor hu ?_
    | (refine wpAny_bind (m := callSpecialIfBound? (.ref x) (Str.ofString "__eq__") [yv]) (PySem.W.ifBound_K X J hs hf (wpAny_mono h (fun v s' hv => ?_) fun _ _ e => e))
       obtain ⟨b, rfl, hq⟩ := hv
       repeat (first | exact hq | exact wpAny_pure hq | exact wpAny_truthy_bool hq | (refine wpAny_bind (m := truthy (.bool _)) (wpAny_truthy_bool ?_)) | wp_step))
    | wp_step)
theorem objNeV_call {yv : Value} {Q : Value → Shared → Prop} (X : K.In s.heap) (J : PySem.W.InstAt s.heap x ox C od) (hm : PySem.W.mroIn K C (.type "object") = some true) (hs : PySem.W.findIn K (.ref C) "__eq__" = some (some (.ref f))) (hf : PySem.W.isFn K (.ref f) = true) (hu : A.units + 1 < cLine)
    (h : wpAny (model prog w) A.in1 (call (.ref f) [.ref x, yv]) (NotBack Q) E s) : wpAny (model prog w) A (call (.builtin "object.__ne__") [.ref x, yv]) Q E s := by
  refine wpAny_call (codeAny_call_builtin F.cmp_object.ne.plain F.cmpEntry_ne (PySem.W.check_slot F.cmpKind_ne F.cmpSplit_ne (J.type.andThen (PySem.W.looks_mroIn X hm)) (F.cmpArgs_ne _ _) ?_))
  exact objNeV_body X J hs hf hu h
theorem cmpNeN_K {Q : Value → Shared → Prop} (X : K.In s.heap) (J : PySem.W.InstAt s.heap x ox C od) (hno : PySem.W.subIn K (.type "NoneType") (.ref C) = some false) (hm : PySem.W.mroIn K C (.type "object") = some true)
    (hn : PySem.W.findIn K (.ref C) "__ne__" = some (some (.builtin "object.__ne__"))) (hs : PySem.W.findIn K (.ref C) "__eq__" = some (some (.ref f))) (hf : PySem.W.isFn K (.ref f) = true) (hu : A.units + 1 < cLine)
    (h : wpAny (model prog w) A.in1 (call (.ref f) [.ref x, .none]) (NotBack Q) E s) : wpAny (model prog w) A (compareOp .NotEq (.ref x) .none) Q E s := by
  show wpAny (model prog w) A (richCompare .NotEq (.ref x) .none) Q E s
  have one : wpAny (model prog w) A (tryCompare (.ref x) "__ne__" .none) (fun r s' => ∃ v, r = some v ∧ Q v s') E s := by
    unfold tryCompare
    refine wpAny_bind (objNe_bound X J hn (objNeV_call X J hm hs hf hu (wpAny_mono h (fun v s' hv => ?_) fun _ _ e => e)))
    obtain ⟨b, rfl, hq⟩ := hv
    exact ⟨b, rfl, wpAny_pure ⟨_, rfl, hq⟩⟩
  have tn : PySem.W.Looks (model prog w) s.heap (typeOf Value.none) (.type "NoneType") := .now
  unfold richCompare
  rw [cmpInfo_NotEq]
  simp only [oneThing_ref]
  refine wpAny_holding (wpAny_bind (wpAny_cRoomFor (by omega) ?_))
  refine wpAny_bind (J.type.here (wpAny_bind (tn.here ?_)))
  rw [show (Value.ref C != Value.type "NoneType") = true from by simp]
  simp only [if_true]
  refine wpAny_bind ((PySem.W.looks_subIn X hno).here ?_)
  simp only [Bool.false_eq_true, if_false]
  refine wpAny_bind (wpAny_mono one (fun r s' z => ?_) fun _ _ e => e)
  obtain ⟨v, rfl, hq⟩ := z
  exact wpAny_pure hq
end
section
variable {X : Cx} {C f : Addr} {fd : FuncData} {ps : List Str} {CX : CXT} {k : Nat} {sp : Sp}
def rOwnNeN (C : Addr) (sp : Sp) (E : XK) : R2 := fun x y H Q => ∃ a dx fs, x = .ref a ∧ y = .non ∧ H a = some (.ins C dx fs) ∧ sp [x, y] H (fun v H' => ∃ t, v = .bl t ∧ Q (.bl (!t)) H') E
theorem op_ownNeN {E : XK} (hno : PySem.W.subIn X.K (.type "NoneType") (.ref C) = some false) (hm : PySem.W.mroIn X.K C (.type "object") = some true) (hn : PySem.W.findIn X.K (.ref C) "__ne__" = some (some (.builtin "object.__ne__"))) (hs : PySem.W.findIn X.K (.ref C) "__eq__" = some (some (.ref f))) (hf : PySem.W.isFn X.K (.ref f) = true)
    (F : FnOk X.prog X.w X.K X.mg X.base CX k f fd ps sp) (hr : Room (k + 1) X.A) (hb : Binds X.K fd ps []) (hx : ∀ (H : Hp) (s : Shared) (e : Value) (s' : Shared), CX X.stack H s E e s' → False) : OpR X (compareOp .NotEq) (rOwnNeN C sp E) := by
  intro pn sg σ H x y v u Q I rx ry h
  obtain ⟨a, dx, fs, rfl, rfl, ha, q⟩ := h
  cases rx
  cases (show u = Value.none from ry)
  obtain ⟨od, J⟩ := inst_of I ha
  refine cmpNeN_K I.kIn J hno hm hn hs hf (by have := hr.units; omega) ?_
  have hl := F.len _ _ _ _ q
  have rv : Vals [V.ref a, V.non] [Value.ref a, Value.none] := .cons rfl (.cons rfl .nil)
  refine wpAny_call (codeAny_mono (F.run X.A.in1 X.stack sg H ⟨[.ref a, .none], []⟩ [.ref a, .none] [.ref a, .non] _ E hr.in1 I.env0.in1 (by
    have := hb sg [.ref a, .none] I.kIn (by simpa using hl)
    simpa using this) rv q) fun r s' hq => ?_)
  cases r with
  | error e => exact (hx _ _ _ _ hq).elim
  | ok fl =>
    cases fl with
    | ret w =>
      obtain ⟨z, H', I', rz, t, ez, ex⟩ := I.after hq
      subst ez
      cases (show w = Value.bool t from rz)
      exact ⟨t, rfl, .bl (!t), H', I', rfl, ex⟩
    | next => exact False.elim hq
    | brk => exact False.elim hq
    | cont => exact False.elim hq
end
/-! ### a comprehension over the rows and their items -/
/-- [f(item) for row in rows for item in row] -/
theorem lc2_rows {K : Frag} {pa : Addr} {ws : List V} {m : List (List Int)} {H1 : Hp} {D : Addr} {j j1 : Nat} {te : TE} {vs vs1 : List Nat} {σ : L2.St} {f : Int → Int} {Qd : Hp → Prop} (ha : SqT K H1 pa ws) (hD : H1 D = none)
    (hp : Paired (TRow K H1) ws m) (hlen : m.flatten.length ≤ 1000)
    (hw0 : ∀ x, wipe (List.set (wipe σ vs) j x) vs = wipe σ vs) (hw1 : ∀ x y, wipe (List.set (wipe (List.set (wipe σ vs) j x) vs1) j1 y) vs1 = wipe (List.set (wipe σ vs) j x) vs1)
    (hrow : ∀ x, (List.set (wipe σ vs) j x)[j]? = some x)
    (step : ∀ (z : Int) (x : Option V) (H : Hp) (Ko : VK), Ko (.int (f z)) H → te (List.set (wipe (List.set (wipe σ vs) j x) vs1) j1 (some (.int z))) H Ko)
    (done : ∀ H, Same H1 H → H D = some (.lst ((m.flatten.map f).map V.int)) → Qd H) :
    ∃ W : Nat → Nat → Hp → Prop, (∃ m, W 0 m (upd H1 D (.lst []))) ∧ ∀ i m H, W i m H →
  ((Itt K pa).stop i H ∧ Qd H) ∨ ((Itt K pa).go i H ∧ ∃ Nx : Hp → Prop, (∀ H', Nx H' → ∃ m', m' < m ∧ W (i + 1) m' H') ∧ ∀ x H', (Itt K pa).yld i H x H' → gName j x (wipe σ vs) H' fun σ2 H2 => wipe σ2 vs = wipe σ vs ∧ tYes σ2 H2 fun b H3 =>
    if b = true then iTup K (tVar j) σ2 H3 fun J1 H4 => ∃ W1 : Nat → Nat → Hp → Prop, (∃ m, W1 0 m H4) ∧ ∀ j2 k H, W1 j2 k H →
      (J1.stop j2 H ∧ Nx H) ∨ (J1.go j2 H ∧ ∃ Nx1 : Hp → Prop, (∀ H', Nx1 H' → ∃ k', k' < k ∧ W1 (j2 + 1) k' H') ∧ ∀ x H', J1.yld j2 H x H' → gName j1 x (wipe σ2 vs1) H' fun σ3 H5 => wipe σ3 vs1 = wipe σ2 vs1 ∧ tYes σ3 H5 fun b H6 =>
        if b = true then te σ3 H6 fun y H7 => ∃ acc, H7 D = some (.lst acc) ∧ acc.length < sizeLine ∧ Nx1 (upd H7 D (.lst (acc ++ [y]))) else Nx1 H6)
    else Nx H3) := by
  have lw := Paired.length hp
  have w := walk_tup (K := K) (a := pa) (xs := ws)
  let P : Nat → Hp → Prop := fun i H => Same H1 H ∧ H D = some (.lst (((m.take i).flatten.map f).map V.int))
  have upk : ∀ {H : Hp} {o : HO}, Same H1 H → Same H1 (upd H D o) := fun s b o e => by rw [upd_ne (ne_of_none e hD)]; exact s _ _ e
  refine ⟨fun i k H => k = ws.length - i ∧ i ≤ ws.length ∧ P i H, ⟨ws.length, by simp, Nat.zero_le _, upk (Same.refl _), by rw [upd_same]; rfl⟩, ?_⟩
  rintro i k H ⟨rfl, hi, sH, eD⟩
  by_cases hlt : i < ws.length
  · refine .inr ⟨w.goes i H hlt (Same.seqT sH ha), P (i + 1), fun H' p' => ⟨ws.length - (i + 1), by omega, rfl, hlt, p'⟩, fun x H' y => ?_⟩
    obtain ⟨rfl, ex⟩ := w.yields i H x H' hlt (Same.seqT sH ha) y
    obtain ⟨r, er, a, rfl, har⟩ := Paired.getR hp ex
    have w1 := walk_tup (K := K) (a := a) (xs := r.map V.int)
    refine ⟨hw0 _, tyes_of ?_⟩
    have etk : m.take (i + 1) = m.take i ++ [r] := by rw [List.take_add_one, er]; rfl
    have hfl : ((m.take (i + 1)).flatten).length ≤ m.flatten.length := by
      have : m.flatten = (m.take (i + 1)).flatten ++ (m.drop (i + 1)).flatten := by rw [← List.flatten_append, List.take_append_drop]
      rw [this, List.length_append]
      omega
    rw [etk, List.flatten_append, List.length_append] at hfl
    simp only [List.flatten_cons, List.flatten_nil, List.append_nil] at hfl
    refine ⟨_, hrow _, a, rfl, ⟨_, Same.seqT sH har⟩, ?_⟩
    let P1 : Nat → Hp → Prop := fun q H => Same H1 H ∧ H D = some (.lst (((((m.take i).flatten ++ r.take q)).map f).map V.int))
    refine ⟨fun q k H => k = (r.map V.int).length - q ∧ q ≤ (r.map V.int).length ∧ P1 q H, ⟨(r.map V.int).length, by simp, Nat.zero_le _, sH, by rw [List.take_zero, List.append_nil]; exact eD⟩, ?_⟩
    rintro q k H3 ⟨rfl, hq, s3, e3⟩
    by_cases hlt1 : q < (r.map V.int).length
    · refine .inr ⟨w1.goes q H3 hlt1 (Same.seqT s3 har), P1 (q + 1), fun H' p' => ⟨(r.map V.int).length - (q + 1), by omega, rfl, hlt1, p'⟩, fun x H4 y => ?_⟩
      obtain ⟨rfl, ex1⟩ := w1.yields q H3 x H4 hlt1 (Same.seqT s3 har) y
      obtain ⟨z, ez, rfl⟩ := ints_get ex1
      refine ⟨hw1 _ _, tyes_of (step z _ _ _ ⟨_, e3, small1000 ?_, upk s3, ?_⟩)⟩
      · rw [List.length_map] at hlt1
        rw [List.length_map, List.length_map, List.length_append, List.length_take]
        omega
      · rw [upd_same, List.take_add_one, ez]
        simp [List.map_append]
    · have e : q = (r.map V.int).length := by omega
      subst e
      refine .inl ⟨w1.stops H3 (Same.seqT s3 har), s3, ?_⟩
      have e2 : List.take (r.map V.int).length r = r := List.take_of_length_le (by rw [List.length_map]; exact Nat.le_refl _)
      rw [e2] at e3
      rw [etk, List.flatten_append]
      simp only [List.flatten_cons, List.flatten_nil, List.append_nil]
      exact e3
  · have e : i = ws.length := by omega
    subst e
    rw [List.take_of_length_le (by omega)] at eD
    exact .inl ⟨w.stops H (Same.seqT sH ha), done H sH eD⟩
end Gm
/-! Of an own class: x in c, c == an object of another own class, c != None; range(a, b) as a value; a comprehension over the rows and their items. -/
namespace Gm
open PySem PySem.Spec PyProof.Rows L2
section
variable {X : Cx} {C f : Addr} {fd : FuncData} {ps : List Str} {CX : CXT} {k : Nat} {sp : Sp} {E : XK}
/-- x in c: the answer of the own def is True or False -/
def rOwnIn (C : Addr) (sp : Sp) (E : XK) (neg : Bool) : R2 := fun x y H Q => ∃ b dx fs, y = .ref b ∧ H b = some (.ins C dx fs) ∧ sp [y, x] H (fun v H' => ∃ t, v = .bl t ∧ Q (.bl (if neg then !t else t)) H') E
theorem op_ownIn (hs : PySem.W.findIn X.K (.ref C) "__contains__" = some (some (.ref f))) (hf : PySem.W.isFn X.K (.ref f) = true)
    (F : FnOk X.prog X.w X.K X.mg X.base CX k f fd ps sp) (hr : Room k X.A) (hb : Binds X.K fd ps []) (hx : Passes CX X E) : OpR X (compareOp .In) (rOwnIn C sp E false) := by
  intro pn sg σ H x y v u Q I rx ry h
  obtain ⟨b, dx, fs, rfl, ha, q⟩ := h
  cases ry
  obtain ⟨od, J⟩ := inst_of I ha
  obtain ⟨m, hF⟩ := I.fr
  refine PySem.W.in_K hF I.ok.mod.kin J hs hf ?_
  refine wpAny_mono (run_fn (us := [.ref b, v]) (vs := [.ref b, x]) F hr hb .nil hx I (.cons rfl (.cons rx .nil)) q) (fun w' s' z => ?_) fun _ _ z => z
  obtain ⟨zR, HR, IR, relZ, t, rfl, postZ⟩ := z
  cases (show w' = Value.bool t from relZ)
  exact wpAny_truthy_bool ⟨.bl t, HR, IR, rfl, postZ⟩
theorem op_ownNotIn (hs : PySem.W.findIn X.K (.ref C) "__contains__" = some (some (.ref f))) (hf : PySem.W.isFn X.K (.ref f) = true)
    (F : FnOk X.prog X.w X.K X.mg X.base CX k f fd ps sp) (hr : Room k X.A) (hb : Binds X.K fd ps []) (hx : Passes CX X E) : OpR X (compareOp .NotIn) (rOwnIn C sp E true) := by
  intro pn sg σ H x y v u Q I rx ry h
  obtain ⟨b, dx, fs, rfl, ha, q⟩ := h
  cases ry
  obtain ⟨od, J⟩ := inst_of I ha
  obtain ⟨m, hF⟩ := I.fr
  refine PySem.W.notIn_K hF I.ok.mod.kin J hs hf ?_
  refine wpAny_mono (run_fn (us := [.ref b, v]) (vs := [.ref b, x]) F hr hb .nil hx I (.cons rfl (.cons rx .nil)) q) (fun w' s' z => ?_) fun _ _ z => z
  obtain ⟨zR, HR, IR, relZ, t, rfl, postZ⟩ := z
  cases (show w' = Value.bool t from relZ)
  exact wpAny_truthy_bool ⟨.bl (!t), HR, IR, rfl, postZ⟩
/-- c == an object of another own class -/
def rOwnCmpO (C C2 : Addr) (sp : Sp) (E : XK) : R2 := fun x y H Q => ∃ a b dx fs dy gs, x = .ref a ∧ y = .ref b ∧ H a = some (.ins C dx fs) ∧ H b = some (.ins C2 dy gs) ∧ sp [x, y] H Q E
theorem op_ownCmpO {C2 : Addr} (hs : PySem.W.findIn X.K (.ref C) "__eq__" = some (some (.ref f))) (hf : PySem.W.isFn X.K (.ref f) = true) (hnf : PySem.W.notFirst X.K C (.ref C2) = true)
    (F : FnOk X.prog X.w X.K X.mg X.base CX k f fd ps sp) (hr : Room k X.A) (hb : Binds X.K fd ps []) (hx : Passes CX X E) : OpR X (compareOp .Eq) (rOwnCmpO C C2 sp E) := by
  intro pn sg σ H x y v u Q I rx ry h
  obtain ⟨a, b, dx, fs, dy, gs, rfl, rfl, ha, hb', q⟩ := h
  cases rx
  cases ry
  obtain ⟨od, J⟩ := inst_of I ha
  obtain ⟨od', J'⟩ := inst_of I hb'
  obtain ⟨m, hF⟩ := I.fr
  show wpAny _ _ (richCompare .Eq (.ref a) (.ref b)) _ _ _
  refine PySem.W.cmp_K (op := .Eq) (tb := .ref C2) hr.units0 hF I.ok.mod.kin J J'.type hnf hs hf ?_
  refine wpAny_mono (run_fn (us := [.ref a, .ref b]) (vs := [.ref a, .ref b]) F hr hb .nil hx I (.cons rfl (.cons rfl .nil)) q) (fun w s' z => ?_) fun _ _ z => z
  obtain ⟨zR, HR, IR, relZ, postZ⟩ := z
  exact SlX.cmpback relZ ⟨zR, HR, IR, relZ, postZ⟩
end
end Gm
/-! any(a tuple of ints) -/
namespace Gm
open PySem PySem.Spec PyProof.Rows L2
theorem iter_anyT {prog : Program} {w : World} {A : Around} {E : Value → Shared → Prop} {s : Shared} {l : Addr} {items : Array Value} {Q : Value → Shared → Prop} (hl : s.heap.IsTuple l items)
    (h : ∀ s₂ : Shared, s₂ = { s with heap := s.heap.push { cls := .type "tuple_iterator", data := .fields #[.ref l, .int 0 0] } } →
      (s₂.heap.IsTupleIter s.heap.objs.size l 0 ∧ s₂.heap.IsTuple l items) → l ≠ s.heap.objs.size → Q (.ref s.heap.objs.size) s₂) : wpAny (model prog w) A (pyIter (.ref l)) Q E s := by
  have hlt : l < s.heap.objs.size := by obtain ⟨_, e, _⟩ := hl; exact Heap.lt_size e
  exact wpAny_pyIter_tuple hl (h _ rfl ⟨⟨_, Heap.get?_push_size _ rfl, rfl, rfl⟩, hl.push _⟩ (Nat.ne_of_lt hlt))
theorem truth_ints {prog : Program} {w : World} {A : Around} {ns : List Int} {its : List Value} (e : Vals (ns.map V.int) its) :
    TruthOf prog w A (fun i v => its.toArray[i]? = some v) (fun i => ns.getD i 0 != 0) := fun i v s Q E hv hq => by
  have hv' : its[i]? = some v := by simpa using hv
  obtain ⟨z, t, hz, rfl⟩ : ∃ z t, ns[i]? = some z ∧ v = Value.int z t := by
    clear hq hv
    induction ns generalizing its i with
    | nil => cases e; cases hv'
    | cons n ns ih =>
      cases e with
      | cons x xs =>
        cases i with
        | zero =>
          obtain ⟨t, ht⟩ := x
          refine ⟨n, t, rfl, ?_⟩
          have : _ = v := Option.some.inj hv'
          rw [← this, ht]
        | succ i => exact ih xs i hv'
  have hg : (ns.getD i 0 != 0) = (z != 0) := by rw [List.getD_eq_getElem?_getD, hz] <;> rfl
  have hq' : Q (ns.getD i 0 != 0) s := hq
  rw [hg] at hq'
  exact PySem.P.truthy_int hq'
theorem any_rangeI : ∀ ns : List Int, (List.range ns.length).any (fun i => ns.getD i 0 != 0) = ns.any (fun z => z != 0)
  | [] => rfl
  | b :: bs => by
    rw [List.length_cons, List.range_succ_eq_map, List.any_cons, List.any_map, List.any_cons, ← any_rangeI bs]
    all_goals rfl
section
variable {X : Cx}
def rAnyI (K : PySem.W.Frag) : List V → Hp → VK → Prop := fun vs H Q => ∃ (a : Addr) (ns : List Int), vs = [V.ref a] ∧ SqT K H a (ns.map V.int) ∧ Q (.bl (ns.any fun z => z != 0)) H
theorem cr_anyI (hc : X.calm = true) : CallR X (.builtin "any") (rAnyI X.K) := by
  intro pins s σ H vs us Q I r h
  obtain ⟨a, ns, rfl, hs, q⟩ := h
  obtain ⟨its, rv, hl, _⟩ := I.tuple hs
  rw [Vals.ref1 r]
  refine call_any_walk (iter_anyT hl fun s₂ e2 st hne => ?_)
  subst e2
  refine ⟨_, _, _, _, _, _, _, rfl, Walks.tuple (A := X.A.in1) (I.ok.hd hc) _ a hne its.toArray, st, truth_ints rv, fun h' tk hk => ?_⟩
  refine ⟨.bl _, H, I.kept fun b o eo => hk b o (fun hmem => ?_) (Heap.get?_push_of_some _ eo), ?_, q⟩
  · rcases List.mem_cons.mp hmem with e1 | hmem
    · exact absurd (e1 ▸ Heap.lt_size eo) (Nat.lt_irrefl _)
    · cases hmem
  · have hlen : its.length = ns.length := by have := rv.length; rw [List.length_map] at this; omega
    show Value.bool _ = Value.bool _
    rw [← any_rangeI, List.size_toArray, hlen]
theorem anyIK (K : PySem.W.Frag) (hK : X.K = K) (hc : X.calm = true) : CallR X (.builtin "any") (rAnyI K) := by subst hK; exact cr_anyI hc
end
end Gm
/-! try with several clauses, each with a name or without -/
namespace Gm
open PySem PySem.Spec PyProof.Rows L2
abbrev Clause := Value × Option Nat × (Addr → Value → Option Addr → TS)
/-- behind a clause its name is gone -/
def endI (i : Option Nat) (D : Ends) : Ends := match i with
  | none => D
  | some i => { nx := fun σ' H' => D.nx (σ'.set i none) H', rt := D.rt, bk := fun σ' H' => D.bk (σ'.set i none) H', ct := fun σ' H' => D.ct (σ'.set i none) H' }
def setI (i : Option Nat) (a : Addr) (σ : L2.St) : L2.St := match i with
  | none => σ
  | some i => σ.set i (some (.ref a))
def wCl (K : PySem.W.Frag) (Wout : WX) (D : Ends) : List Clause → WX
  | [] => Wout
  | (c, i, ts) :: r => fun cls d σ H => ∃ b, PySem.W.exmOne K cls c = some b ∧ (b = true → ∀ a, H a = none → ts a cls d (endI i D) (setI i a σ) H) ∧ (b = false → wCl K Wout D r cls d σ H)
inductive ClsOk (X : Cx) : List ExceptHandler → List Clause → Prop
  | nil : ClsOk X [] []
  | bare {x : Str} {c : Value} {ts : Addr → Value → Option Addr → TS} {b₀ : Stmt} {suite : List Stmt} {np pos' : Pos} {hds : List ExceptHandler} {l : List Clause} (hc : Names X x c)
      (hsu : ∀ (a : Addr) (oe : Obj) (cls : Value) (d : Option Addr) (pn : List (Addr × Obj)), Zc cls d oe → (∃ vs, oe.data = .fields vs) → PSs (X.suite a ((a, oe) :: pn)) (b₀ :: suite) (ts a cls d)) (r : ClsOk X hds l) :
      ClsOk X (.ExceptHandler (some (.Name x np)) none (b₀ :: suite) pos' :: hds) ((c, none, ts) :: l)
  | named {x n : Str} {c : Value} {i : Nat} {ts : Addr → Value → Option Addr → TS} {b₀ : Stmt} {suite : List Stmt} {np pos' : Pos} {hds : List ExceptHandler} {l : List Clause} (hc : Names X x c) (hN : X.N.Nodup) (hi : X.N[i]? = some n) (hln : X.env.kindOf n = some .local)
      (hsu : ∀ (a : Addr) (oe : Obj) (cls : Value) (d : Option Addr) (pn : List (Addr × Obj)), Zc cls d oe → (∃ vs, oe.data = .fields vs) → PSs (X.suite a ((a, oe) :: pn)) (b₀ :: suite) (ts a cls d)) (r : ClsOk X hds l) :
      ClsOk X (.ExceptHandler (some (.Name x np)) (some n) (b₀ :: suite) pos' :: hds) ((c, some i, ts) :: l)
section
variable {X : Cx} {pins : List (Addr × Obj)}
/-- how a statement's end in another context is one here -/
theorem sp_back {D D' : Ends} {f : Flow} {s : Shared} {X' : Cx} {pins' : List (Addr × Obj)} (h : SP X' pins' D' f s) (ok : ∀ σ H, Inv X' pins' σ H s → Inv X pins σ H s) (nx : ∀ σ H, D'.nx σ H → D.nx σ H) (rt : ∀ v H, D'.rt v H → D.rt v H) (bk : ∀ σ H, D'.bk σ H → D.bk σ H) (ct : ∀ σ H, D'.ct σ H → D.ct σ H) : SP X pins D f s := by
  cases f with
  | next => obtain ⟨σ, H, I, q⟩ := h; exact ⟨σ, H, ok _ _ I, nx _ _ q⟩
  | brk => obtain ⟨σ, H, I, q⟩ := h; exact ⟨σ, H, ok _ _ I, bk _ _ q⟩
  | cont => obtain ⟨σ, H, I, q⟩ := h; exact ⟨σ, H, ok _ _ I, ct _ _ q⟩
  | ret u => obtain ⟨v, σ, H, I, r, q⟩ := h; exact ⟨v, σ, H, ok _ _ I, r, rt _ _ q⟩
end
section
variable {X : Cx} {body : List Stmt} {h₀ : ExceptHandler} {hds : List ExceptHandler} {l : List Clause} {pos : Pos} {tb : WX → TS} {Wout : WX}
theorem ps_try_cl (hs : X.stack = X.env :: X.outer) (hf : X.env.frame = some X.env.locals) (tk : Takes X Wout)
    (hb : ∀ (W : WX) (pn : List (Addr × Obj)) (xe : Value → Shared → Prop), Takes (X.tr pn xe) W → PassesOwn (model X.prog X.w) X.A X.env xe → PSs (X.tr pn xe) body (tb W))
    (hh : ClsOk X (h₀ :: hds) l) : PS X (.Try body (h₀ :: hds) [] [] pos) (fun D σ H => tb (wCl X.K Wout D l) D σ H) := by
  refine ⟨fun pins s σ H D I h => ?_⟩
  have ok := I.ok
  have hfr : X.A.frames = some (X.env :: X.outer) := by rw [ok.frames, hs]
  refine wpAny_Try_except ?_
  refine wpAny_mono ((hb (wCl X.K Wout D l) (X.pn ++ pins) (fun e s₁ => wpAny (model X.prog X.w) X.A (noteFrame e X.env) (fun _ s₂ => wpAny (model X.prog X.w) X.A (setFlight e none) (fun _ s₃ =>
    wpAny (model X.prog X.w) X.A (handleBy e X.env (h₀ :: hds)) (SP X pins D) X.xe s₃) X.xe s₂) X.xe s₁) (fun u s' xx => ?caught) PassesOwn.looking).run [] s σ H D (I.toTry _) h) (fun f s1 hsp => ?ends) (fun e s1 he => he)
  case ends =>
    have back : SP X pins D f s1 := sp_back hsp (fun _ _ J => J.ofTry ok) (fun _ _ q => q) (fun _ _ q => q) (fun _ _ q => q) (fun _ _ q => q)
    cases f with
    | next => exact wpAny_execs_nil back
    | brk => exact back
    | cont => exact back
    | ret u => exact back
  case caught =>
    obtain ⟨a, B, sI, pins', σ', H', cls, d, rfl, J', nb, up, sky, na, os, ag, w⟩ := xx
    have J : Inv X pins σ' H' sI := J'.ofTry ok
    rw [show (X.tr (X.pn ++ pins) _).stack = X.env :: X.outer from hs] at sky
    show wpAny (model X.prog X.w) X.A (noteFrame (.ref a) X.env) _ _ _
    refine Sky.land Zc.steady hfr hf sky fun h3 fl3 up3 => ?_
    have J3 : Inv X pins σ' H' { s' with heap := h3 } := J.landed nb fl3.1 (up.trans up3) os ag
    obtain ⟨oe3, vs3, he3, hz3, hd3⟩ := fl3.there
    have nfr : a ∉ frs (X.env :: X.outer) := fun hm => by
      obtain ⟨_, o', e', hnf⟩ := fl3.2.2.1.mem hm
      rw [he3] at e'
      cases e'
      exact hnf _ hd3
    have nL : a ≠ X.env.locals := fun z => nfr (List.mem_filterMap.mpr ⟨X.env, List.mem_cons_self, by rw [hf, z]⟩)
    have nF : a ∉ X.fs := fun hm => by
      obtain ⟨e, he, q⟩ := List.mem_filterMap.mp hm
      exact nfr (List.mem_filterMap.mpr ⟨e, List.mem_cons_of_mem _ he, q⟩)
    have S3 := J3.suite he3 hd3 na nL nF
    have LT : PySem.W.Looks (model X.prog X.w) h3 (typeOf (.ref a)) cls := fun A Q E s k q => wpAny_typeOf_ref (k _ _ he3) (by rw [hz3.1]; exact q)
    have named : ∀ {x : Str} {c : Value} {np : Pos} {Q : Value → Shared → Prop} {E : Value → Shared → Prop}, Names X x c → Q c { s' with heap := h3 } → wpAny (model X.prog X.w) (X.A.mark (some (.ref a))) (eval (.Name x np) X.env) Q E { s' with heap := h3 } := fun {x c np Q E} hc q => by
      obtain ⟨hg, hdbg, hm | ⟨hm, hv, hnn⟩⟩ := hc
      · exact ld_glob (X := X.suite a ((a, oe3) :: (X.pn ++ pins))) S3 hg hm q hdbg
      · exact ld_blt (X := X.suite a ((a, oe3) :: (X.pn ++ pins))) S3 hg hm hv q hnn hdbg
    -- no clause is left
    have onward : Wout cls d σ' H' → wpAny (model X.prog X.w) X.A (handleBy (.ref a) X.env []) (SP X pins D) X.xe { s' with heap := h3 } := fun w => by
      refine wpAny_handleBy_nil ?_
      obtain ⟨_, _, _, oe, vs, T, oT, ts', he, hz, hd, h1, hr⟩ := id fl3
      unfold PySem.passOn
      refine wpAny_bind (wpAny_field he hd h1 ?_)
      rw [if_neg (show ¬ ((Value.ref T == Value.none) = true) from by simp)]
      have fin : wpAny (model X.prog X.w) X.A (setFlight (.ref a) X.env.frame) (fun _ s4 => wpAny (model X.prog X.w) X.A (throw (.ref a) : Sem Flow) (SP X pins D) X.xe s4) X.xe { s' with heap := h3 } := by
        rw [hf]
        refine HandSPX.setFlight_upZ fl3 fun h4 hh4 up4 => wpAny_throw (tk _ _ ?_)
        exact ⟨a, B, sI, pins, σ', H', cls, d, rfl, J, nb, (up.trans up3).trans up4, .inr (.inr (by rw [hs]; exact hh4)), na, os, ag, w⟩
      first
        | exact wpAny_bind (wpAny_pure (wpAny_bind fin))
        | exact wpAny_bind fin
    clear h hb
    suffices go : ∀ {hds' : List ExceptHandler} {l' : List Clause}, ClsOk X hds' l' → wCl X.K Wout D l' cls d σ' H' → wpAny (model X.prog X.w) X.A (handleBy (.ref a) X.env hds') (SP X pins D) X.xe { s' with heap := h3 } from go hh w
    intro hds' l' hk w
    induction hk with
    | nil => exact onward w
    | @bare x c ts b₀ suite np pos' hds2 l2 hc hsu r ih =>
      obtain ⟨b, hb1, hyes, hno⟩ := w
      refine wpAny_handleBy_cons (codeAny_handlers_test ?_) (by intro q; cases q)
      refine named hc ((PySem.W.exm_one (M := model X.prog X.w) (J3.kIn) LT hb1).here ?_)
      cases b with
      | false => exact ih (hno rfl)
      | true =>
        refine codeAny_handlers_suite ?_
        refine HandSPX.lands_againZ fl3 fun h4 fl4 up4 => ?_
        have J4 : Inv X pins σ' H' { s' with heap := h4 } := J.landed nb fl4.1 ((up.trans up3).trans up4) os ag
        obtain ⟨oe4, vs4, he4, hz4, hd4⟩ := fl4.there
        have S4 := J4.suite he4 hd4 na nL nF
        refine wpAny_mono ((hsu a oe4 cls d (X.pn ++ pins) hz4 ⟨_, hd4⟩).run [] _ _ H' _ S4 (hyes rfl a na)) (fun f s6 hsp => ?_) (fun _ _ z => False.elim z)
        have back : SP X pins D f s6 := sp_back hsp (fun _ _ J => J.unsuite ok) (fun _ _ q => q) (fun _ _ q => q) (fun _ _ q => q) (fun _ _ q => q)
        cases f <;> exact back
    | @named x n c i ts b₀ suite np pos' hds2 l2 hc hN hi hln hsu r ih =>
      obtain ⟨b, hb1, hyes, hno⟩ := w
      refine wpAny_handleBy_cons (codeAny_handlers_test ?_) (by intro q; cases q)
      refine named hc ((PySem.W.exm_one (M := model X.prog X.w) (J3.kIn) LT hb1).here ?_)
      cases b with
      | false => exact ih (hno rfl)
      | true =>
        refine codeAny_handlers_suite_as ?_
        refine HandSPX.lands_againZ fl3 fun h4 fl4 up4 => ?_
        have J4 : Inv X pins σ' H' { s' with heap := h4 } := J.landed nb fl4.1 ((up.trans up3).trans up4) os ag
        obtain ⟨oe4, vs4, he4, hz4, hd4⟩ := fl4.there
        have S4 := J4.suite he4 hd4 na nL nF
        refine store_ok (X := X.suite a ((a, oe4) :: (X.pn ++ pins))) (v := .ref a) S4 hN hi (.inl hln) rfl (fun s5 S5 => ?_) (.inr hln)
        refine wpAny_mono ((hsu a oe4 cls d (X.pn ++ pins) hz4 ⟨_, hd4⟩).run [] s5 _ H' _ S5 (hyes rfl a na)) (fun f s6 hsp => ?_) (fun _ _ z => False.elim z)
        have gone : ∀ {σ6 : L2.St} {H6 : Hp} {Q : Shared → Prop}, Inv (X.suite a ((a, oe4) :: (X.pn ++ pins))) [] σ6 H6 s6 → (∀ s7, Inv X pins (σ6.set i none) H6 s7 → Q s7) →
            wpAny (model X.prog X.w) X.A (do bindName X.env n .none; unbindBehindTheSuite X.env n pos') (fun _ s7 => Q s7) X.xe s6 := fun {σ6 H6 Q} S6 hq => gone_ok (S6.unsuite ok) hN hi hln hq
        cases f with
        | next =>
          obtain ⟨σ6, H6, S6, q6⟩ := hsp
          exact gone S6 fun s7 J7 => ⟨_, _, J7, q6⟩
        | brk =>
          obtain ⟨σ6, H6, S6, q6⟩ := hsp
          exact gone S6 fun s7 J7 => ⟨_, _, J7, q6⟩
        | cont =>
          obtain ⟨σ6, H6, S6, q6⟩ := hsp
          exact gone S6 fun s7 J7 => ⟨_, _, J7, q6⟩
        | ret u =>
          obtain ⟨v6, σ6, H6, S6, r6, q6⟩ := hsp
          exact gone S6 fun s7 J7 => ⟨_, _, _, J7, r6, q6⟩
end
end Gm
/-! isinstance(e, c), e a caught error that has a dict of its own -/
namespace Gm
open PySem PySem.Spec PyProof.Rows L2
def rIsX (K : PySem.W.Frag) (cls : Value) (d : Option Addr) (D a : Addr) : List V → Hp → VK → Prop := fun xs H Q => ∃ (c : V) (cv : Value) (b : Bool) (dd : Addr) (fs : List (Str × V)), xs = [.ref a, c] ∧ (∀ u, RelV c u → u = cv) ∧ cls = .ref D ∧ d = some dd ∧ H dd = some (.xd fs) ∧ PySem.W.kitOne K (.ref D) cv = some b ∧ Q (.bl b) H
theorem call_isX {X : Cx} {a D : Addr} {oe : Obj} {cls : Value} {d : Option Addr} {pn : List (Addr × Obj)} (hcl : (PySem.W.clsIn X.K D).isSome = true) (T : XfC X.K D) (ha : PySem.W.findIn X.K (.ref D) "__class__" = some (some (.builtin "object.__class__")))
    (hn : PySem.W.specialIn X.K (.builtin "object.__class__") "__get__" = some (some (.builtin "getset_descriptor.__get__"))) (ht : PySem.W.takesIn X.K (.builtin "object.__class__") = some true) (hm : PySem.W.mroIn X.K D (.type "object") = some true)
    (hz : Zc cls d oe) (hf : ∃ vs, oe.data = .fields vs) : CallR (X.suite a ((a, oe) :: pn)) (.builtin "isinstance") (rIsX X.K cls d D a) := by
  intro pins s σ H xs us Q I r h
  obtain ⟨c, cv, b, dd, fs, rfl, hcv, ec, ed, ea, e, q⟩ := h
  subst ec ed
  cases r with
  | cons rx rr =>
    cases rr with
    | cons rt rr =>
      cases rr
      cases rx
      have ec := hcv _ rt
      subst ec
      obtain ⟨hget, _⟩ := I.pin (a, oe) (List.mem_append.mpr (.inl List.mem_cons_self))
      obtain ⟨vs, hv⟩ := hf
      have hx : ObjOk X.prog X.w H s.heap dd (.xd fs) := I.hok dd _ ea
      obtain ⟨mA, hns, _⟩ := hx
      obtain ⟨od, ho, _⟩ := lookIn_ns hns
      have J : PySem.W.InstAt s.heap a oe D (some od) := ⟨hget, hz.1, by unfold PySem.W.notCls; rw [hv] <;> rfl, by rw [hz.2]; exact ho⟩
      exact PySem.W.kia_one (PySem.W.kitx_exc (od := some od) hcl T.ga T.gg T.exC ha hn ht hm) I.kIn J e (fun z => nomatch z) fun tk => ⟨.bl b, H, I.kept (t' := tk) fun _ _ z => z, rfl, q⟩
/-- isinstance(e, c), e a caught error without a dict of its own, its class told by the reading -/
def rIsY (K : PySem.W.Frag) (cls : Value) (d : Option Addr) (D a : Addr) : List V → Hp → VK → Prop := fun xs H Q => ∃ (c : V) (cv : Value) (b : Bool), xs = [.ref a, c] ∧ (∀ u, RelV c u → u = cv) ∧ cls = .ref D ∧ d = none ∧ PySem.W.kitOne K (.ref D) cv = some b ∧ Q (.bl b) H
theorem call_isY {X : Cx} {a D : Addr} {oe : Obj} {cls : Value} {d : Option Addr} {pn : List (Addr × Obj)} (hcl : (PySem.W.clsIn X.K D).isSome = true) (T : XfC X.K D) (ha : PySem.W.findIn X.K (.ref D) "__class__" = some (some (.builtin "object.__class__")))
    (hn : PySem.W.specialIn X.K (.builtin "object.__class__") "__get__" = some (some (.builtin "getset_descriptor.__get__"))) (ht : PySem.W.takesIn X.K (.builtin "object.__class__") = some true) (hm : PySem.W.mroIn X.K D (.type "object") = some true)
    (hz : Zc cls d oe) (hf : ∃ vs, oe.data = .fields vs) : CallR (X.suite a ((a, oe) :: pn)) (.builtin "isinstance") (rIsY X.K cls d D a) := by
  intro pins s σ H xs us Q I r h
  obtain ⟨c, cv, b, rfl, hcv, ec, ed, e, q⟩ := h
  subst ec ed
  cases r with
  | cons rx rr =>
    cases rr with
    | cons rt rr =>
      cases rr
      cases rx
      have ec := hcv _ rt
      subst ec
      obtain ⟨hget, _⟩ := I.pin (a, oe) (List.mem_append.mpr (.inl List.mem_cons_self))
      obtain ⟨vs, hv⟩ := hf
      have J : PySem.W.InstAt s.heap a oe D none := ⟨hget, hz.1, by unfold PySem.W.notCls; rw [hv] <;> rfl, by rw [hz.2]; trivial⟩
      exact PySem.W.kia_one (PySem.W.kitx_exc (od := none) hcl T.ga T.gg T.exC ha hn ht hm) I.kIn J e (fun z => nomatch z) fun tk => ⟨.bl b, H, I.kept (t' := tk) fun _ _ z => z, rfl, q⟩
end Gm
/-! sorted(d, reverse=b) of a dict whose keys are ints -/
namespace Gm
open PySem PySem.Spec PyProof.Rows L2
variable {X : Cx}
theorem cr_sortedDRev {b : Bool} (hcalm : X.calm = true) : CallRK X (.builtin "sorted") [Str.ofString "reverse"] (fun xs zs H Q => ∃ (a : Addr) (kvs : List (Key × V)) (ks : List Int), xs = [.ref a] ∧ zs = [.bl b] ∧ Rd H a (.dK kvs) ∧ kvs.map (·.1) = ks.map Sum.inl ∧ ks.length < 64 ∧
    ∀ (ys : List Int) (p : Addr), ys.Perm ks → OrdB b ys → H p = none → Q (.ref p) (upd H p (.lst (ys.map V.int)))) := by
  intro pins s σ H xs zs us ws Q I r rz q
  obtain ⟨a, kvs, ks, ex, ez, hd, hks, h64, q⟩ := q
  subst ex
  subst ez
  obtain ⟨u, eu, rx⟩ := vals1 r
  subst eu
  cases rx
  obtain ⟨w1, ew, rw1⟩ := vals1 rz
  subst ew
  obtain rfl : w1 = Value.bool b := rw1
  obtain ⟨z, lo, vs, rel, dd⟩ := dk_rd I.hok hd
  obtain ⟨ep, hat⟩ := dd.dictAt
  have hkeys : vs.map (·.1) = ks.map Sum.inl := rel.keys.symm.trans hks
  have hl : vs.length = ks.length := by
    have e := congrArg List.length hkeys
    rw [List.length_map, List.length_map] at e
    exact e
  have h16 : vs.length ≤ sizeLine := by rw [hl, sizeLine_eq]; omega
  refine PyProof.Rows.call_function_entry_kw PyProof.Rows.kind_sorted PyProof.Rows.plain_sorted PyProof.Rows.entry_sorted (PyProof.Rows.args_sorted_rev _ _) ?_
  unfold Builtin.«sorted»
  refine wpAny_bind (m := checkCount "sorted" 1 1 _) (wpAny_pure ?_)
  refine wpAny_bind (PySem.W.kdu_collect (A := X.A.in1) (PySem.W.kdl_dict (knd := mixKind X.prog X.w) (kvs := vs) (ep := ep) lo) (I.ok.hd hcalm) hat h16 fun h' tk acc hk hacc => ?_)
  have hal : acc.toList.length = ks.length := by rw [Array.length_toList, hacc.1, hl]
  have hS : IntsAre acc.toList ks := ints_each hal fun j v e => by
    obtain ⟨k, x, e1, e2⟩ := hacc.2 j v (by rw [← Array.getElem?_toList]; exact e)
    have e3 : (vs.map (·.1))[j]? = some k := by rw [List.getElem?_map, e1]; rfl
    rw [hkeys, List.getElem?_map] at e3
    cases e4 : ks[j]? with
    | none => rw [e4] at e3; cases e3
    | some y =>
      rw [e4] at e3
      have e5 : Sum.inl y = k := Option.some.inj e3
      subst e5
      rcases keyIs_shape (show keyIs (Sum.inl y) v = true from e2) with ⟨i, t, ek, ev⟩ | ⟨z, t, ek, ev⟩
      · cases ek
        exact ⟨y, t, rfl, ev⟩
      · cases ek
  have I1 : Inv X pins σ H { s with heap := h', toks := tk } := I.kept hk
  refine wpAny_bind (wpAny_newList ?_ (by rw [hal, sizeLine_eq]; omega))
  have hoL : (h'.push (seqObj "list" acc.toList.toArray 0)).get? h'.objs.size = some (seqObj "list" acc.toList.toArray 0) := Heap.get?_push_size _ rfl
  show wpAny _ _ _ _ _ { s with heap := h'.push (seqObj "list" acc.toList.toArray 0), toks := tk }
  refine wpAny_bind (wpAny_holding (PyProof.Rows.wpAny_call_entry_kw PyProof.Rows.slot_list_sort ⟨_, hoL, rfl⟩ PyProof.Rows.entry_list_sort ?_ (PyProof.Rows.args_list_sort_rev _ _)))
  refine SrtR.list_sort_ordR (b := b) SrtO.swo_int hoL (by rw [hal, sizeLine_eq]; omega) (fun h2 => SrtO.ints_sortable hS h2) fun out h1 h2 => ⟨_, rfl, ?_⟩
  obtain ⟨ns', k1, k2, k3⟩ := SrtR.ints_outR hS h1 h2
  obtain ⟨e', he'⟩ := PyProof.Rows.sortedHeap_at (vs := acc.toList) (out := (if b = true then out.toArray.reverse else out.toArray)) hoL
  have hlen : (ns'.map V.int).length ≤ sizeLine := by
    rw [List.length_map, k2.length_eq]
    exact Nat.le_trans (Nat.le_of_lt h64) (by decide)
  refine wpAny_pure ⟨_, rfl, .ref h'.objs.size, upd H h'.objs.size (.lst (ns'.map V.int)), I1.laid (t' := tk) (fun b u e => ?_) (Nat.le_refl _)
    (show ObjOk X.prog X.w _ _ _ (.lst (ns'.map V.int)) from ⟨hlen, _, e', vals_of_ints k1, by rw [Array.toArray_toList]; exact he'⟩), rfl, q ns' _ k2 k3 (I1.hok.fresh (Nat.le_refl _))⟩
  have hb : b < h'.objs.size := Heap.lt_size e
  rw [PyProof.Rows.sortedHeap_old (Nat.ne_of_lt hb) (by rw [size_push']; exact Nat.lt_succ_of_lt hb)]
  exact Heap.get?_push_of_some _ e
end Gm
/-! rows of integers in Hermite form: pivots, spans, sizes -/
namespace Gm
def mixR (a : Int) (x : List Int) (b : Int) (y : List Int) : List Int := List.zipWith (fun x y => a * x + b * y) x y
theorem mixR_len {a b : Int} {x y : List Int} {w : Nat} (hx : x.length = w) (hy : y.length = w) : (mixR a x b y).length = w := by
  unfold mixR
  rw [List.length_zipWith, hx, hy, Nat.min_self]
theorem getD_none {x : List Int} {j : Nat} (h : x.length ≤ j) : x.getD j 0 = 0 := by
  rw [List.getD_eq_getElem?_getD, List.getElem?_eq_none h]
  rfl
theorem mixR_get {a b : Int} {x y : List Int} {w : Nat} (hx : x.length = w) (hy : y.length = w) (j : Nat) : (mixR a x b y).getD j 0 = a * x.getD j 0 + b * y.getD j 0 := by
  by_cases h : j < w
  · unfold mixR
    rw [List.getD_eq_getElem?_getD, List.getElem?_zipWith, List.getElem?_eq_getElem (show j < x.length by omega), List.getElem?_eq_getElem (show j < y.length by omega), List.getD_eq_getElem?_getD, List.getD_eq_getElem?_getD, List.getElem?_eq_getElem (show j < x.length by omega), List.getElem?_eq_getElem (show j < y.length by omega)]
    rfl
  · rw [getD_none (by rw [mixR_len hx hy]; omega), getD_none (by omega), getD_none (by omega), Int.mul_zero, Int.mul_zero]
    rfl
theorem list_ext {x y : List Int} {w : Nat} (hx : x.length = w) (hy : y.length = w) (h : ∀ j, x.getD j 0 = y.getD j 0) : x = y := by
  apply List.ext_getElem (by omega)
  intro j h1 h2
  have := h j
  rw [List.getD_eq_getElem?_getD, List.getD_eq_getElem?_getD, List.getElem?_eq_getElem h1, List.getElem?_eq_getElem h2] at this
  exact this
/-! ### spans -/
def Spn : List (List Int) → (Nat → Int) → Prop
  | [], x => ∀ j, x j = 0
  | r :: R, x => ∃ a : Int, Spn R (fun j => x j - a * r.getD j 0)
theorem Spn.cong {R : List (List Int)} {x y : Nat → Int} (h : Spn R x) (e : ∀ j, x j = y j) : Spn R y := by
  have : x = y := funext e
  rw [← this]
  exact h
theorem Spn.zero : ∀ (R : List (List Int)), Spn R (fun _ => 0)
  | [] => fun _ => rfl
  | r :: R => ⟨0, (Spn.zero R).cong fun j => by rw [Int.zero_mul, Int.sub_zero]⟩
theorem Spn.add : ∀ {R : List (List Int)} {x y : Nat → Int}, Spn R x → Spn R y → Spn R (fun j => x j + y j)
  | [], x, y, h, k => fun j => by show x j + y j = 0; rw [h j, k j]; rfl
  | r :: R, x, y, ⟨a, h⟩, ⟨b, k⟩ => ⟨a + b, (Spn.add h k).cong fun j => by grind⟩
theorem Spn.smul (c : Int) : ∀ {R : List (List Int)} {x : Nat → Int}, Spn R x → Spn R (fun j => c * x j)
  | [], x, h => fun j => by show c * x j = 0; rw [h j, Int.mul_zero]
  | r :: R, x, ⟨a, h⟩ => ⟨c * a, (Spn.smul c h).cong fun j => by grind⟩
theorem Spn.tail {R : List (List Int)} {r : List Int} {x : Nat → Int} (h : Spn R x) : Spn (r :: R) x := ⟨0, h.cong fun j => by rw [Int.zero_mul, Int.sub_zero]⟩
theorem Spn.head (R : List (List Int)) (r : List Int) : Spn (r :: R) (fun j => r.getD j 0) := ⟨1, (Spn.zero R).cong fun j => by show (0 : Int) = r.getD j 0 - 1 * r.getD j 0; omega⟩
theorem Spn.mem : ∀ {R : List (List Int)} {r : List Int}, r ∈ R → Spn R (fun j => r.getD j 0)
  | q :: R, r, h => by
    rcases List.mem_cons.mp h with rfl | h
    · exact Spn.head R r
    · exact (Spn.mem h).tail
/-- a span within a span -/
theorem Spn.sub : ∀ {R S : List (List Int)} {x : Nat → Int}, (∀ r ∈ R, Spn S (fun j => r.getD j 0)) → Spn R x → Spn S x
  | [], S, x, _, h => (Spn.zero S).cong fun j => (h j).symm
  | r :: R, S, x, hs, ⟨a, h⟩ => ((Spn.sub (fun q hq => hs q (List.mem_cons_of_mem _ hq)) h).add ((hs r (List.mem_cons_self ..)).smul a)).cong fun j => by grind
theorem Spn.prop {R : List (List Int)} {x : Nat → Int} (P : (Nat → Int) → Prop) (h0 : P fun _ => 0) (ha : ∀ (x y : Nat → Int) (a : Int), P x → P y → P fun j => x j + a * y j) (hr : ∀ r ∈ R, P fun j => r.getD j 0) (h : Spn R x) : P x := by
  induction R generalizing x with
  | nil =>
    have : x = fun _ => 0 := funext h
    rw [this]
    exact h0
  | cons r R ih =>
    obtain ⟨a, h⟩ := h
    have h1 := ih (fun q hq => hr q (List.mem_cons_of_mem _ hq)) h
    have h2 := ha _ _ a h1 (hr r (List.mem_cons_self ..))
    have e : (fun j => x j - a * r.getD j 0 + a * r.getD j 0) = x := funext fun j => by omega
    rwa [e] at h2
/-! ### pivots -/
abbrev Tops := List (Nat × List Int)
abbrev rowsT (T : Tops) : List (List Int) := T.map (·.2)
structure Pv (w : Nat) (p : Nat × List Int) : Prop where
  lt : p.1 < w
  len : p.2.length = w
  zero : ∀ j, j < p.1 → p.2.getD j 0 = 0
  pos : 0 < p.2.getD p.1 0
structure Ech (w : Nat) (T : Tops) : Prop where
  asc : T.Pairwise fun p q => p.1 < q.1
  pv : ∀ p ∈ T, Pv w p
theorem Ech.tail {w : Nat} {p : Nat × List Int} {T : Tops} (h : Ech w (p :: T)) : Ech w T := ⟨(List.pairwise_cons.mp h.asc).2, fun q hq => h.pv q (List.mem_cons_of_mem _ hq)⟩
theorem Ech.head {w : Nat} {p : Nat × List Int} {T : Tops} (h : Ech w (p :: T)) : Pv w p ∧ ∀ q ∈ T, p.1 < q.1 := ⟨h.pv p (List.mem_cons_self ..), (List.pairwise_cons.mp h.asc).1⟩
theorem Ech.cons {w : Nat} {p : Nat × List Int} {T : Tops} (h : Ech w T) (hp : Pv w p) (hl : ∀ q ∈ T, p.1 < q.1) : Ech w (p :: T) := ⟨List.pairwise_cons.mpr ⟨hl, h.asc⟩, fun q hq => by
  rcases List.mem_cons.mp hq with rfl | hq
  · exact hp
  · exact h.pv q hq⟩
/-- what lies in the span of pivots behind c is zero up to c -/
theorem Ech.zero {w c : Nat} : ∀ {T : Tops}, Ech w T → (∀ q ∈ T, c < q.1) → ∀ {x : Nat → Int}, Spn (rowsT T) x → ∀ j, j ≤ c → x j = 0
  | [], _, _, x, h, j, _ => h j
  | p :: T, E, hc, x, ⟨a, h⟩, j, hj => by
    have h1 := Ech.zero E.tail (fun q hq => hc q (List.mem_cons_of_mem _ hq)) h j hj
    have h2 := E.head.1.zero j (by have := hc p (List.mem_cons_self ..); omega)
    rw [h2, Int.mul_zero, Int.sub_zero] at h1
    exact h1
/-- the first item of a combination is a multiple of a pivot -/
theorem Ech.lead {w : Nat} : ∀ {T : Tops}, Ech w T → ∀ {x : Nat → Int} {c : Nat}, Spn (rowsT T) x → (∀ j, j < c → x j = 0) → x c ≠ 0 → ∃ p ∈ T, p.1 = c ∧ p.2.getD c 0 ∣ x c
  | [], _, x, c, h, _, hn => absurd (h c) hn
  | p :: T, E, x, c, ⟨a, h⟩, hz, hn => by
    obtain ⟨hp, hl⟩ := E.head
    have hp1 := Ech.zero E.tail hl h p.1 (Nat.le_refl _)
    have hp1 : x p.1 = a * p.2.getD p.1 0 := by have : x p.1 - a * p.2.getD p.1 0 = 0 := hp1; omega
    by_cases ha : a = 0
    · subst ha
      have e : ∀ j, x j - 0 * p.2.getD j 0 = x j := fun j => by rw [Int.zero_mul, Int.sub_zero]
      obtain ⟨q, hq, e1, e2⟩ := Ech.lead E.tail (h.cong e) hz hn
      exact ⟨q, List.mem_cons_of_mem _ hq, e1, e2⟩
    · have h0 : x p.1 ≠ 0 := by
        rw [hp1]
        exact Int.mul_ne_zero ha (by have := hp.pos; omega)
      have h1 : ∀ j, j < p.1 → x j = 0 := fun j hj => by
        have h2 : x j - a * p.2.getD j 0 = 0 := Ech.zero E.tail hl h j (by omega)
        rw [hp.zero j hj, Int.mul_zero, Int.sub_zero] at h2
        exact h2
      have ec : p.1 = c := by
        rcases Nat.lt_trichotomy p.1 c with hlt | heq | hgt
        · exact absurd (hz _ hlt) h0
        · exact heq
        · exact absurd (h1 c hgt) hn
      subst ec
      exact ⟨p, List.mem_cons_self .., rfl, ⟨a, by rw [hp1, Int.mul_comm]⟩⟩
/-- each pivot is in the range of those behind it -/
def Tid : Tops → Prop
  | [] => True
  | p :: T => (∀ q ∈ T, 0 ≤ p.2.getD q.1 0 ∧ p.2.getD q.1 0 < q.2.getD q.1 0) ∧ Tid T
/-- the Hermite form is one alone -/
theorem herm_uniq {w : Nat} : ∀ {T S : Tops}, Ech w T → Ech w S → Tid T → Tid S → (∀ x, Spn (rowsT T) x ↔ Spn (rowsT S) x) → T = S
  | [], [], _, _, _, _, _ => rfl
  | [], q :: S, _, E', _, _, h => by
    obtain ⟨hq, _⟩ := E'.head
    have h1 : Spn (rowsT ([] : Tops)) (fun j => q.2.getD j 0) := (h _).mpr (Spn.head _ _)
    have h2 : q.2.getD q.1 0 = 0 := h1 q.1
    have h3 := hq.pos
    omega
  | p :: T, [], E, _, _, _, h => by
    obtain ⟨hq, _⟩ := E.head
    have h1 : Spn (rowsT ([] : Tops)) (fun j => p.2.getD j 0) := (h _).mp (Spn.head _ _)
    have h2 : p.2.getD p.1 0 = 0 := h1 p.1
    have h3 := hq.pos
    omega
  | p :: T, q :: S, E, E', t, t', h => by
    obtain ⟨hp, hpl⟩ := E.head
    obtain ⟨hq, hql⟩ := E'.head
    -- the first pivot of one is a pivot of the other
    have side : ∀ {p q : Nat × List Int} {T S : Tops}, Ech w (p :: T) → Ech w (q :: S) → (∀ x, Spn (rowsT (p :: T)) x ↔ Spn (rowsT (q :: S)) x) → q.1 ≤ p.1 := fun {p q T S} E E' h => by
      obtain ⟨hp, hpl⟩ := E.head
      have h1 := (h _).mp (Spn.head (rowsT T) p.2)
      obtain ⟨r, hr, er, _⟩ := Ech.lead E' h1 (fun j hj => hp.zero j hj) (by have := hp.pos; omega)
      rcases List.mem_cons.mp hr with rfl | hr
      · omega
      · have := E'.head.2 r hr
        omega
    have ec : p.1 = q.1 := Nat.le_antisymm (side E' E fun x => (h x).symm) (side E E' h)
    -- and of the same size
    have dv : ∀ {p q : Nat × List Int} {T S : Tops}, Ech w (p :: T) → Ech w (q :: S) → (∀ x, Spn (rowsT (p :: T)) x ↔ Spn (rowsT (q :: S)) x) → p.1 = q.1 → q.2.getD q.1 0 ∣ p.2.getD p.1 0 := fun {p q T S} E E' h ec => by
      obtain ⟨hp, hpl⟩ := E.head
      have h1 := (h _).mp (Spn.head (rowsT T) p.2)
      obtain ⟨r, hr, er, hd⟩ := Ech.lead E' h1 (fun j hj => hp.zero j hj) (by have := hp.pos; omega)
      rcases List.mem_cons.mp hr with rfl | hr
      · rw [← er] at hd ⊢
        exact hd
      · have := E'.head.2 r hr
        omega
    have ep : p.2.getD p.1 0 = q.2.getD q.1 0 := by
      have d1 := dv E E' h ec
      have d2 := dv E' E (fun x => (h x).symm) ec.symm
      exact Int.dvd_antisymm (Int.le_of_lt hp.pos) (Int.le_of_lt hq.pos) d2 d1
    -- the rest spans the same
    have rest : ∀ {p q : Nat × List Int} {T S : Tops}, Ech w (p :: T) → Ech w (q :: S) → (∀ x, Spn (rowsT (p :: T)) x → Spn (rowsT (q :: S)) x) → p.1 = q.1 → ∀ x, Spn (rowsT T) x → Spn (rowsT S) x := fun {p q T S} E E' h ec x hx => by
      obtain ⟨hp, hpl⟩ := E.head
      obtain ⟨hq, hql⟩ := E'.head
      have x0 := Ech.zero E.tail hpl hx p.1 (Nat.le_refl _)
      obtain ⟨a, ha⟩ := h x hx.tail
      have h1 : x q.1 - a * q.2.getD q.1 0 = 0 := Ech.zero E'.tail hql ha q.1 (Nat.le_refl _)
      rw [← ec, x0] at h1
      have a0 : a = 0 := by
        rcases Int.mul_eq_zero.mp (show a * q.2.getD q.1 0 = 0 by rw [ec] at h1; omega) with h2 | h2
        · exact h2
        · have := hq.pos
          omega
      subst a0
      exact ha.cong fun j => by rw [Int.zero_mul, Int.sub_zero]
    have hT : ∀ x, Spn (rowsT T) x ↔ Spn (rowsT S) x := fun x => ⟨rest E E' (fun x => (h x).mp) ec x, rest E' E (fun x => (h x).mpr) ec.symm x⟩
    have eT := herm_uniq E.tail E'.tail t.2 t'.2 hT
    subst eT
    -- the first rows
    have hd : Spn (rowsT T) (fun j => p.2.getD j 0 - q.2.getD j 0) := by
      obtain ⟨a, ha⟩ := (h _).mp (Spn.head (rowsT T) p.2)
      have h1 : p.2.getD q.1 0 - a * q.2.getD q.1 0 = 0 := Ech.zero E.tail hql ha q.1 (Nat.le_refl _)
      have a1 : a = 1 := by
        rw [← ec, ep, ec] at h1
        have hq0 := hq.pos
        have : (1 - a) * q.2.getD q.1 0 = 0 := by rw [Int.sub_mul, Int.one_mul]; exact h1
        rcases Int.mul_eq_zero.mp this with h2 | h2
        · omega
        · omega
      subst a1
      exact ha.cong fun j => by rw [Int.one_mul]
    have hz : ∀ j, p.2.getD j 0 - q.2.getD j 0 = 0 := by
      by_cases hall : ∀ j, p.2.getD j 0 - q.2.getD j 0 = 0
      · exact hall
      · exfalso
        have hex : ∃ j, p.2.getD j 0 - q.2.getD j 0 ≠ 0 := Classical.not_forall.mp hall
        -- the least one
        have least : ∀ n, (∃ j, j < n ∧ p.2.getD j 0 - q.2.getD j 0 ≠ 0) → ∃ c, p.2.getD c 0 - q.2.getD c 0 ≠ 0 ∧ ∀ j, j < c → p.2.getD j 0 - q.2.getD j 0 = 0 := fun n => by
          induction n with
          | zero => rintro ⟨j, hj, _⟩; exact absurd hj (Nat.not_lt_zero _)
          | succ n ih =>
            rintro ⟨j, hj, hn⟩
            by_cases hs : ∃ j, j < n ∧ p.2.getD j 0 - q.2.getD j 0 ≠ 0
            · exact ih hs
            · refine ⟨j, hn, fun k hk => ?_⟩
              by_cases hk0 : p.2.getD k 0 - q.2.getD k 0 = 0
              · exact hk0
              · exact absurd ⟨k, by omega, hk0⟩ hs
        obtain ⟨j, hj⟩ := hex
        obtain ⟨c, hc, hl⟩ := least (j + 1) ⟨j, Nat.lt_succ_self _, hj⟩
        obtain ⟨r, hr, er, ⟨k, hk⟩⟩ := Ech.lead E.tail hd hl hc
        have b1 := t.1 r hr
        have b2 := t'.1 r hr
        rw [er] at b1 b2
        have hk0 : k = 0 := by
          rcases Int.lt_trichotomy k 0 with h1 | h1 | h1
          · have : r.2.getD c 0 * k ≤ r.2.getD c 0 * (-1) := Int.mul_le_mul_of_nonneg_left (by omega) (by omega)
            omega
          · exact h1
          · have : r.2.getD c 0 * 1 ≤ r.2.getD c 0 * k := Int.mul_le_mul_of_nonneg_left (by omega) (by omega)
            omega
        rw [hk0, Int.mul_zero] at hk
        exact hc hk
    have er : p.2 = q.2 := list_ext hp.len hq.len fun j => by have := hz j; omega
    have : p = q := by
      cases p
      cases q
      simp only at ec er
      rw [ec, er]
    rw [this]
end Gm
/-! reducing by pivots, tidying, and the sizes -/
namespace Gm
def redT : Tops → List Int → List Int
  | [], row => row
  | p :: T, row => redT T (if row.getD p.1 0 / p.2.getD p.1 0 ≠ 0 then mixR 1 row (-(row.getD p.1 0 / p.2.getD p.1 0)) p.2 else row)
def tidyT : Tops → Tops
  | [] => []
  | p :: T => (p.1, redT (tidyT T) p.2) :: tidyT T
def red1 (p : Nat × List Int) (row : List Int) : List Int := if row.getD p.1 0 / p.2.getD p.1 0 ≠ 0 then mixR 1 row (-(row.getD p.1 0 / p.2.getD p.1 0)) p.2 else row
theorem redT_cons (p : Nat × List Int) (T : Tops) (row : List Int) : redT (p :: T) row = redT T (red1 p row) := rfl
theorem red1_len {p : Nat × List Int} {row : List Int} {w : Nat} (hp : p.2.length = w) (hr : row.length = w) : (red1 p row).length = w := by
  unfold red1
  split
  · exact mixR_len hr hp
  · exact hr
theorem red1_get {p : Nat × List Int} {row : List Int} {w : Nat} (hp : p.2.length = w) (hr : row.length = w) (j : Nat) : (red1 p row).getD j 0 = row.getD j 0 - row.getD p.1 0 / p.2.getD p.1 0 * p.2.getD j 0 := by
  unfold red1
  split
  · rw [mixR_get hr hp, Int.one_mul, Int.neg_mul]
    omega
  · rename_i h
    have h0 : row.getD p.1 0 / p.2.getD p.1 0 = 0 := by omega
    rw [h0, Int.zero_mul, Int.sub_zero]
theorem redT_len {w : Nat} : ∀ {T : Tops} {row : List Int}, (∀ p ∈ T, p.2.length = w) → row.length = w → (redT T row).length = w
  | [], _, _, h => h
  | p :: T, row, hT, h => redT_len (T := T) (row := red1 p row) (fun q hq => hT q (List.mem_cons_of_mem _ hq)) (red1_len (hT p (List.mem_cons_self ..)) h)
theorem redT_span {w : Nat} : ∀ {T : Tops} {row : List Int}, (∀ p ∈ T, p.2.length = w) → row.length = w → Spn (rowsT T) (fun j => row.getD j 0 - (redT T row).getD j 0)
  | [], row, _, _ => fun j => by show row.getD j 0 - row.getD j 0 = 0; omega
  | p :: T, row, hT, h => by
    have hp := hT p (List.mem_cons_self ..)
    have ih := redT_span (T := T) (row := red1 p row) (fun q hq => hT q (List.mem_cons_of_mem _ hq)) (red1_len hp h)
    refine ⟨row.getD p.1 0 / p.2.getD p.1 0, ih.cong fun j => ?_⟩
    rw [red1_get hp h]
    show row.getD j 0 - row.getD p.1 0 / p.2.getD p.1 0 * p.2.getD j 0 - (redT T (red1 p row)).getD j 0 = row.getD j 0 - (redT (p :: T) row).getD j 0 - row.getD p.1 0 / p.2.getD p.1 0 * p.2.getD j 0
    rw [redT_cons]
    omega
/-- columns that are zero in all pivots' rows stay -/
theorem redT_col {w : Nat} {j : Nat} : ∀ {T : Tops} {row : List Int}, (∀ p ∈ T, p.2.length = w ∧ p.2.getD j 0 = 0) → row.length = w → (redT T row).getD j 0 = row.getD j 0
  | [], _, _, _ => rfl
  | p :: T, row, hT, h => by
    obtain ⟨hp, h0⟩ := hT p (List.mem_cons_self ..)
    rw [redT_cons, redT_col (T := T) (row := red1 p row) (fun q hq => hT q (List.mem_cons_of_mem _ hq)) (red1_len hp h), red1_get hp h, h0, Int.mul_zero, Int.sub_zero]
theorem redT_before {w c : Nat} {T : Tops} {row : List Int} (E : Ech w T) (hc : ∀ p ∈ T, c < p.1) (h : row.length = w) {j : Nat} (hj : j ≤ c) : (redT T row).getD j 0 = row.getD j 0 :=
  redT_col (fun p hp => ⟨(E.pv p hp).len, (E.pv p hp).zero j (by have := hc p hp; omega)⟩) h
theorem redT_app : ∀ (T S : Tops) (row : List Int), redT (T ++ S) row = redT S (redT T row)
  | [], _, _ => rfl
  | p :: T, S, row => by
    rw [List.cons_append, redT_cons, redT_cons, redT_app]
theorem redT_skip {row : List Int} : ∀ {T : Tops}, (∀ p ∈ T, row.getD p.1 0 = 0) → redT T row = row
  | [], _ => rfl
  | p :: T, h => by
    have h0 := h p (List.mem_cons_self ..)
    have e : red1 p row = row := by
      unfold red1
      rw [h0, Int.zero_ediv, if_neg (fun z => z rfl)]
    rw [redT_cons, e]
    exact redT_skip fun q hq => h q (List.mem_cons_of_mem _ hq)
/-- behind the reduction each pivot's item is in its range -/
theorem redT_range {w : Nat} : ∀ {T : Tops} {row : List Int}, Ech w T → row.length = w → ∀ p ∈ T, 0 ≤ (redT T row).getD p.1 0 ∧ (redT T row).getD p.1 0 < p.2.getD p.1 0
  | q :: T, row, E, h, p, hp => by
    obtain ⟨hq, hl⟩ := E.head
    rw [redT_cons]
    rcases List.mem_cons.mp hp with rfl | hp
    · rw [redT_before E.tail hl (red1_len hq.len h) (Nat.le_refl _), red1_get hq.len h]
      have h1 := Int.emod_nonneg (row.getD p.1 0) (show p.2.getD p.1 0 ≠ 0 by have := hq.pos; omega)
      have h2 := Int.emod_lt_of_pos (row.getD p.1 0) hq.pos
      have h3 := Int.emod_def (row.getD p.1 0) (p.2.getD p.1 0)
      rw [Int.mul_comm] at h3
      omega
    · exact redT_range E.tail (red1_len hq.len h) p hp
theorem tidyT_keys : ∀ (T : Tops), (tidyT T).map (·.1) = T.map (·.1)
  | [] => rfl
  | p :: T => by
    show p.1 :: (tidyT T).map (·.1) = p.1 :: T.map (·.1)
    rw [tidyT_keys T]
theorem tidyT_len (T : Tops) : (tidyT T).length = T.length := by
  have := congrArg List.length (tidyT_keys T)
  rwa [List.length_map, List.length_map] at this
theorem keys_lt {c : Nat} {T S : Tops} (h : T.map (·.1) = S.map (·.1)) (hc : ∀ p ∈ S, c < p.1) : ∀ p ∈ T, c < p.1 := fun p hp => by
  have : p.1 ∈ S.map (·.1) := by rw [← h]; exact List.mem_map.mpr ⟨p, hp, rfl⟩
  obtain ⟨q, hq, e⟩ := List.mem_map.mp this
  rw [← e]
  exact hc q hq
theorem tidyT_ech {w : Nat} : ∀ {T : Tops}, Ech w T → Ech w (tidyT T)
  | [], E => E
  | p :: T, E => by
    obtain ⟨hp, hl⟩ := E.head
    have ih := tidyT_ech E.tail
    have hl' := keys_lt (tidyT_keys T) hl
    refine ih.cons ⟨hp.lt, redT_len (fun q hq => (ih.pv q hq).len) hp.len, fun j hj => ?_, ?_⟩ hl'
    · show (redT (tidyT T) p.2).getD j 0 = 0
      rw [redT_before ih hl' hp.len (show j ≤ p.1 by omega)]
      exact hp.zero j hj
    · show 0 < (redT (tidyT T) p.2).getD p.1 0
      rw [redT_before ih hl' hp.len (Nat.le_refl _)]
      exact hp.pos
theorem tidyT_tid {w : Nat} : ∀ {T : Tops}, Ech w T → Tid (tidyT T)
  | [], _ => trivial
  | p :: T, E => ⟨fun q hq => redT_range (tidyT_ech E.tail) E.head.1.len q hq, tidyT_tid E.tail⟩
theorem tidyT_span {w : Nat} : ∀ {T : Tops}, Ech w T → ∀ x, Spn (rowsT (tidyT T)) x ↔ Spn (rowsT T) x
  | [], _, x => Iff.rfl
  | p :: T, E, x => by
    have ih := tidyT_span E.tail
    obtain ⟨hp, hl⟩ := E.head
    have E' := tidyT_ech E.tail
    have hs := redT_span (T := tidyT T) (row := p.2) (fun q hq => (E'.pv q hq).len) hp.len
    constructor
    · refine Spn.sub fun r hr => ?_
      rcases List.mem_cons.mp hr with rfl | hr
      · have h1 := (Spn.head (rowsT T) p.2).add (((ih _).mp hs).smul (-1)).tail
        exact h1.cong fun j => by show p.2.getD j 0 + -1 * (p.2.getD j 0 - (redT (tidyT T) p.2).getD j 0) = (redT (tidyT T) p.2).getD j 0; omega
      · exact ((ih _).mp (Spn.mem hr)).tail
    · refine Spn.sub fun r hr => ?_
      rcases List.mem_cons.mp hr with rfl | hr
      · have h1 := (Spn.head (rowsT (tidyT T)) (redT (tidyT T) p.2)).add hs.tail
        exact h1.cong fun j => by show (redT (tidyT T) p.2).getD j 0 + (p.2.getD j 0 - (redT (tidyT T) p.2).getD j 0) = p.2.getD j 0; omega
      · exact ((ih _).mpr (Spn.mem hr)).tail
/-! ### sizes -/
def Cost (c : Nat) (r : List Int) : Prop := ∀ x ∈ r, 2 * x.natAbs < 2 ^ c
theorem Cost.at {c : Nat} {r : List Int} (h : Cost c r) (j : Nat) : 2 * (r.getD j 0).natAbs < 2 ^ c := by
  by_cases hj : j < r.length
  · rw [List.getD_eq_getElem?_getD, List.getElem?_eq_getElem hj]
    exact h _ (List.getElem_mem hj)
  · rw [getD_none (by omega)]
    exact Nat.pow_pos (by decide)
theorem Cost.up {c d : Nat} {r : List Int} (h : Cost c r) (hd : c ≤ d) : Cost d r := fun x hx => Nat.lt_of_lt_of_le (h x hx) (Nat.pow_le_pow_right (by decide) hd)
/-- a sum of two products -/
theorem cost_mix {a b x y : Int} {A B : Nat} (ha : 2 * a.natAbs < 2 ^ A) (hx : 2 * x.natAbs < 2 ^ B) (hb : 2 * b.natAbs < 2 ^ B) (hy : 2 * y.natAbs < 2 ^ A) : 2 * (a * x + b * y).natAbs < 2 ^ (A + B) := by
  have h1 : 4 * (a * x).natAbs < 2 ^ (A + B) := by
    rw [Nat.pow_add, Int.natAbs_mul]
    have := Nat.mul_lt_mul'' ha hx
    rw [show 2 * a.natAbs * (2 * x.natAbs) = 4 * (a.natAbs * x.natAbs) by rw [Nat.mul_mul_mul_comm]] at this
    exact this
  have h2 : 4 * (b * y).natAbs < 2 ^ (A + B) := by
    rw [Nat.pow_add, Nat.mul_comm (2 ^ A), Int.natAbs_mul]
    have := Nat.mul_lt_mul'' hb hy
    rw [show 2 * b.natAbs * (2 * y.natAbs) = 4 * (b.natAbs * y.natAbs) by rw [Nat.mul_mul_mul_comm]] at this
    exact this
  have h3 := Int.natAbs_add_le (a * x) (b * y)
  omega
theorem mixR_cost {a b : Int} {x y : List Int} {A B : Nat} (ha : 2 * a.natAbs < 2 ^ A) (hx : Cost B x) (hb : 2 * b.natAbs < 2 ^ B) (hy : Cost A y) : Cost (A + B) (mixR a x b y) := fun z hz => by
  unfold mixR at hz
  obtain ⟨i, ei⟩ := List.getElem?_of_mem hz
  rw [List.getElem?_zipWith] at ei
  cases e1 : x[i]? with
  | none => rw [e1] at ei; cases ei
  | some p =>
    cases e2 : y[i]? with
    | none => rw [e1, e2] at ei; cases ei
    | some q =>
      rw [e1, e2] at ei
      have ei : a * p + b * q = z := Option.some.inj ei
      rw [← ei]
      exact cost_mix ha (hx p (List.mem_of_getElem? e1)) hb (hy q (List.mem_of_getElem? e2))
theorem red1_cost {p : Nat × List Int} {row : List Int} {A B : Nat} (hp : Cost A p.2) (hr : Cost B row) (hpos : 0 < p.2.getD p.1 0) : Cost (A + B) (red1 p row) := by
  unfold red1
  split
  · have h1 : 2 * (1 : Int).natAbs < 2 ^ A ∨ ¬ 2 * (1 : Int).natAbs < 2 ^ A := Decidable.em _
    have hA : 2 * (p.2.getD p.1 0).natAbs < 2 ^ A := hp.at p.1
    have hq : 2 * (-(row.getD p.1 0 / p.2.getD p.1 0)).natAbs < 2 ^ B := by
      rw [Int.natAbs_neg]
      have := Int.natAbs_ediv_le_natAbs (row.getD p.1 0) (p.2.getD p.1 0)
      have := hr.at p.1
      omega
    exact mixR_cost (by have : 1 ≤ (p.2.getD p.1 0).natAbs := by omega
                        show 2 * 1 < _
                        omega) hr hq hp
  · exact hr.up (by omega)
/-- costs that double from the last row on -/
def Geo (B : Nat) : Tops → Prop
  | [] => True
  | p :: T => Cost (2 ^ T.length * B) p.2 ∧ Geo B T
theorem redT_geo {w B : Nat} : ∀ {T : Tops} {row : List Int} {ρ : Nat}, Ech w T → Geo B T → Cost ρ row → Cost (ρ + (2 ^ T.length - 1) * B) (redT T row)
  | [], row, ρ, _, _, h => by
    show Cost (ρ + (1 - 1) * B) row
    rw [Nat.sub_self, Nat.zero_mul]
    exact h
  | p :: T, row, ρ, E, g, h => by
    rw [redT_cons]
    refine (redT_geo E.tail g.2 (red1_cost g.1 h E.head.1.pos)).up ?_
    rw [List.length_cons, Nat.pow_succ]
    have h1 : 1 ≤ 2 ^ T.length := Nat.pow_pos (by decide)
    generalize 2 ^ T.length = k at h1
    rw [Nat.sub_mul, Nat.sub_mul]
    have : B ≤ k * B := Nat.le_mul_of_pos_left B h1
    rw [Nat.mul_right_comm, Nat.one_mul]
    omega
theorem redT_cost {w B : Nat} : ∀ {T : Tops} {row : List Int} {ρ : Nat}, Ech w T → (∀ p ∈ T, Cost B p.2) → Cost ρ row → Cost (ρ + T.length * B) (redT T row)
  | [], row, ρ, _, _, h => by
    show Cost (ρ + 0 * B) row
    rw [Nat.zero_mul]
    exact h
  | p :: T, row, ρ, E, g, h => by
    rw [redT_cons]
    refine (redT_cost E.tail (fun q hq => g q (List.mem_cons_of_mem _ hq)) (red1_cost (g p (List.mem_cons_self ..)) h E.head.1.pos)).up ?_
    rw [List.length_cons, Nat.add_mul]
    omega
theorem tidyT_geo {w B : Nat} : ∀ {T : Tops}, Ech w T → (∀ p ∈ T, Cost B p.2) → Geo B (tidyT T)
  | [], _, _ => trivial
  | p :: T, E, h => by
    have ih := tidyT_geo E.tail fun q hq => h q (List.mem_cons_of_mem _ hq)
    refine ⟨(redT_geo (tidyT_ech E.tail) ih (h p (List.mem_cons_self ..))).up ?_, ih⟩
    rw [tidyT_len]
    have h1 : 1 ≤ 2 ^ T.length := Nat.pow_pos (by decide)
    generalize 2 ^ T.length = k at h1
    rw [Nat.sub_mul]
    have : B ≤ k * B := Nat.le_mul_of_pos_left B h1
    omega
theorem Geo.all {B : Nat} : ∀ {T : Tops}, Geo B T → ∀ p ∈ T, Cost (2 ^ (T.length - 1) * B) p.2
  | q :: T, g, p, hp => by
    rcases List.mem_cons.mp hp with rfl | hp
    · exact g.1
    · refine (Geo.all g.2 p hp).up (Nat.mul_le_mul_right B (Nat.pow_le_pow_right (by decide) ?_))
      rw [List.length_cons]
      omega
theorem tidyT_cost {w B : Nat} {T : Tops} (E : Ech w T) (h : ∀ p ∈ T, Cost B p.2) : ∀ p ∈ tidyT T, Cost (2 ^ (T.length - 1) * B) p.2 := by
  have := (tidyT_geo E h).all
  rwa [tidyT_len] at this
end Gm
/-! one more row for the pivots -/
namespace Gm
def insK (j : Nat) (r : List Int) : Tops → Tops
  | [] => [(j, r)]
  | p :: T => if p.1 < j then p :: insK j r T else (j, r) :: p :: T
def setK (j : Nat) (t : List Int) (T : Tops) : Tops := T.map fun p => if p.1 = j then (j, t) else p
theorem mem_insK {j : Nat} {r : List Int} {q : Nat × List Int} : ∀ {T : Tops}, q ∈ insK j r T ↔ q = (j, r) ∨ q ∈ T
  | [] => by simp [insK]
  | p :: T => by
    unfold insK
    split
    · rw [List.mem_cons, mem_insK, List.mem_cons]
      constructor
      · rintro (h | h | h)
        · exact .inr (.inl h)
        · exact .inl h
        · exact .inr (.inr h)
      · rintro (h | h | h)
        · exact .inr (.inl h)
        · exact .inl h
        · exact .inr (.inr h)
    · rw [List.mem_cons]
theorem insK_len {j : Nat} {r : List Int} : ∀ {T : Tops}, (insK j r T).length = T.length + 1
  | [] => rfl
  | p :: T => by
    unfold insK
    split
    · rw [List.length_cons, insK_len, List.length_cons]
    · rfl
theorem insK_ech {w j : Nat} {r : List Int} : ∀ {T : Tops}, Ech w T → Pv w (j, r) → (∀ p ∈ T, p.1 ≠ j) → Ech w (insK j r T)
  | [], E, hp, _ => E.cons hp fun q hq => (by cases hq)
  | p :: T, E, hp, hn => by
    obtain ⟨h1, hl⟩ := E.head
    unfold insK
    split
    · rename_i hlt
      refine (insK_ech E.tail hp fun q hq => hn q (List.mem_cons_of_mem _ hq)).cons h1 fun q hq => ?_
      rcases mem_insK.mp hq with rfl | hq
      · exact hlt
      · exact hl q hq
    · rename_i hge
      have h2 := hn p (List.mem_cons_self ..)
      refine E.cons hp fun q hq => ?_
      rcases List.mem_cons.mp hq with rfl | hq
      · show j < q.1
        omega
      · have := hl q hq
        show j < q.1
        omega
theorem setK_keys (j : Nat) (t : List Int) (T : Tops) : (setK j t T).map (·.1) = T.map (·.1) := by
  unfold setK
  rw [List.map_map]
  refine List.map_congr_left fun p _ => ?_
  show (if p.1 = j then (j, t) else p).1 = p.1
  split
  · rename_i h
    exact h.symm
  · rfl
theorem setK_len (j : Nat) (t : List Int) (T : Tops) : (setK j t T).length = T.length := List.length_map ..
theorem mem_setK {j : Nat} {t : List Int} {T : Tops} {q : Nat × List Int} (h : q ∈ setK j t T) : q = (j, t) ∨ (q ∈ T ∧ q.1 ≠ j) := by
  obtain ⟨p, hp, rfl⟩ := List.mem_map.mp h
  show (if p.1 = j then (j, t) else p) = (j, t) ∨ _
  split
  · exact .inl rfl
  · rename_i hn
    exact .inr ⟨hp, hn⟩
theorem setK_at {j : Nat} {t : List Int} {T : Tops} {p : Nat × List Int} (h : p ∈ T) (e : p.1 = j) : (j, t) ∈ setK j t T := List.mem_map.mpr ⟨p, h, by rw [if_pos e]⟩
theorem setK_off {j : Nat} {t : List Int} {T : Tops} {p : Nat × List Int} (h : p ∈ T) (e : p.1 ≠ j) : p ∈ setK j t T := List.mem_map.mpr ⟨p, h, by rw [if_neg e]⟩
theorem setK_ech {w j : Nat} {t : List Int} {T : Tops} (E : Ech w T) (hp : Pv w (j, t)) : Ech w (setK j t T) := by
  refine ⟨?_, fun q hq => ?_⟩
  · have h := E.asc
    have h1 : (T.map (·.1)).Pairwise (· < ·) := List.pairwise_map.mpr h
    rw [← setK_keys j t T] at h1
    exact List.pairwise_map.mp h1
  · rcases mem_setK hq with rfl | ⟨h, _⟩
    · exact hp
    · exact E.pv q h
theorem key_one {w : Nat} {T : Tops} (E : Ech w T) {p q : Nat × List Int} (hp : p ∈ T) (hq : q ∈ T) (e : p.1 = q.1) : p = q := by
  induction T with
  | nil => cases hp
  | cons a T ih =>
    obtain ⟨_, hl⟩ := E.head
    rcases List.mem_cons.mp hp with rfl | hp1
    · rcases List.mem_cons.mp hq with rfl | hq
      · rfl
      · have := hl q hq
        omega
    · skip
      rcases List.mem_cons.mp hq with e1 | hq1
      · have := hl p hp1
        rw [e1] at e
        omega
      · exact ih E.tail hp1 hq1
/-! ### the number of the pivots from a column on -/
def cnt (j : Nat) (T : Tops) : Nat := (T.filter fun p => decide (j ≤ p.1)).length
theorem cnt_0 (T : Tops) : cnt 0 T = T.length := by
  unfold cnt
  rw [List.filter_eq_self.mpr fun p _ => decide_eq_true (Nat.zero_le _)]
theorem cnt_keys {j : Nat} {T S : Tops} (h : T.map (·.1) = S.map (·.1)) : cnt j T = cnt j S := by
  have e : ∀ T : Tops, cnt j T = ((T.map (·.1)).filter fun c => decide (j ≤ c)).length := fun T => by
    unfold cnt
    rw [List.filter_map, List.length_map]
    rfl
  rw [e, e, h]
theorem cnt_le (j : Nat) (T : Tops) : cnt j T ≤ T.length := List.length_filter_le ..
theorem cnt_step_off {j : Nat} {T : Tops} (h : ∀ p ∈ T, p.1 ≠ j) : cnt (j + 1) T = cnt j T := by
  unfold cnt
  rw [List.filter_congr fun p hp => ?_]
  have := h p hp
  exact decide_eq_decide.mpr (by omega)
theorem cnt_step_at {w j : Nat} : ∀ {T : Tops}, Ech w T → ∀ {p : Nat × List Int}, p ∈ T → p.1 = j → cnt j T = cnt (j + 1) T + 1
  | q :: T, E, p, hp, e => by
    obtain ⟨_, hl⟩ := E.head
    rcases List.mem_cons.mp hp with rfl | hp
    · have h1 : cnt (j + 1) T = cnt j T := cnt_step_off fun r hr => by have := hl r hr; omega
      unfold cnt at h1 ⊢
      rw [List.filter_cons, if_pos (decide_eq_true (by omega)), List.filter_cons, if_neg (by simpa using (show ¬ (j + 1 ≤ p.1) by omega)), List.length_cons, h1]
    · have ih := cnt_step_at E.tail hp e
      have h2 := hl p hp
      unfold cnt at ih ⊢
      rw [List.filter_cons, if_neg (by simpa using (show ¬ (j ≤ q.1) by omega)), List.filter_cons, if_neg (by simpa using (show ¬ (j + 1 ≤ q.1) by omega))]
      exact ih
theorem cnt_mono {j : Nat} (T : Tops) : cnt (j + 1) T ≤ cnt j T := by
  unfold cnt
  rw [← List.countP_eq_length_filter, ← List.countP_eq_length_filter]
  refine List.countP_mono_left fun p _ h => ?_
  have := of_decide_eq_true h
  exact decide_eq_true (by omega)
def tri : Nat → Nat
  | 0 => 0
  | n + 1 => tri n + (n + 1)
theorem tri_mono {a b : Nat} (h : a ≤ b) : tri a ≤ tri b := by
  induction b with
  | zero =>
    obtain rfl : a = 0 := by omega
    exact Nat.le_refl _
  | succ b ih =>
    by_cases e : a = b + 1
    · rw [e]
      exact Nat.le_refl _
    · have := ih (by omega)
      show tri a ≤ tri b + (b + 1)
      omega
/-- the size of a row when n pivots of k are left -/
def fB (B k n : Nat) : Nat := B * (1 + (tri k - tri n))
theorem fB_step {B k n : Nat} (h : n + 1 ≤ k) : fB B k (n + 1) + (n + 1) * B = fB B k n := by
  unfold fB
  have h1 := tri_mono h
  have h2 : tri (n + 1) = tri n + (n + 1) := rfl
  rw [Nat.mul_comm (n + 1) B, ← Nat.mul_add]
  congr 1
  omega
theorem fB_mono {B k n m : Nat} (h : n ≤ m) : fB B k m ≤ fB B k n := by
  unfold fB
  have := tri_mono h
  exact Nat.mul_le_mul_left B (by omega)
theorem fB_B {B k n : Nat} : B ≤ fB B k n := Nat.le_mul_of_pos_right B (by omega)
/-- what stands before the column j -/
structure WR (w B : Nat) (T0 : Tops) (r0 : List Int) (j : Nat) (T : Tops) (r : List Int) : Prop where
  E : Ech w T
  lr : r.length = w
  zr : ∀ i, i < j → r.getD i 0 = 0
  span : ∀ x, Spn (r :: rowsT T) x ↔ Spn (r0 :: rowsT T0) x
  keys : T.map (·.1) = T0.map (·.1)
  cr : Cost (fB B T0.length (cnt j T)) r
  cT : ∀ p ∈ T, j ≤ p.1 → Cost B p.2
  cA : ∀ p ∈ T, Cost (fB B T0.length 0) p.2
  col : ∀ d, (∀ p ∈ T0, p.2.getD d 0 = 0) → (∀ p ∈ T, j ≤ p.1 → p.2.getD d 0 = 0) ∧ (r0.getD d 0 ≠ 0 → r.getD d 0 ≠ 0)
theorem WR.start {w B : Nat} {T : Tops} {r : List Int} (E : Ech w T) (hr : r.length = w) (cT : ∀ p ∈ T, Cost B p.2) (cr : Cost B r) : WR w B T r 0 T r :=
  ⟨E, hr, fun i hi => absurd hi (Nat.not_lt_zero _), fun x => Iff.rfl, rfl, cr.up fB_B, fun p hp _ => cT p hp, fun p hp => (cT p hp).up fB_B, fun d h => ⟨fun p hp _ => h p hp, id⟩⟩
theorem WR.len {w B j : Nat} {T0 T : Tops} {r0 r : List Int} (h : WR w B T0 r0 j T r) : T.length = T0.length := by
  have := congrArg List.length h.keys
  rwa [List.length_map, List.length_map] at this
theorem WR.skip {w B j : Nat} {T0 T : Tops} {r0 r : List Int} (h : WR w B T0 r0 j T r) (hz : r.getD j 0 = 0) : WR w B T0 r0 (j + 1) T r := by
  refine ⟨h.E, h.lr, fun i hi => ?_, h.span, h.keys, h.cr.up (fB_mono (cnt_mono T)), fun p hp hj => h.cT p hp (by omega), h.cA, fun d hd => ⟨fun p hp hj => (h.col d hd).1 p hp (by omega), (h.col d hd).2⟩⟩
  by_cases e : i = j
  · rw [e]
    exact hz
  · exact h.zr i (by omega)
/-- the result -/
structure WRes (w B : Nat) (T0 : Tops) (r0 : List Int) (T : Tops) : Prop where
  E : Ech w T
  span : ∀ x, Spn (rowsT T) x ↔ Spn (r0 :: rowsT T0) x
  len : T.length = T0.length ∨ T.length = T0.length + 1
  cost : ∀ p ∈ T, Cost (B * (1 + tri T0.length)) p.2
  full : ∀ d, (∀ p ∈ T0, p.2.getD d 0 = 0) → r0.getD d 0 ≠ 0 → T.length = T0.length + 1
theorem fB_0 (B k : Nat) : fB B k 0 = B * (1 + tri k) := by
  unfold fB
  rfl
theorem WR.done {w B : Nat} {T0 T : Tops} {r0 r : List Int} (h : WR w B T0 r0 w T r) : WRes w B T0 r0 T := by
  have hz : ∀ j, r.getD j 0 = 0 := fun j => by
    by_cases hj : j < w
    · exact h.zr j hj
    · exact getD_none (by rw [h.lr]; omega)
  refine ⟨h.E, fun x => Iff.trans ⟨Spn.tail, fun ⟨a, ha⟩ => ha.cong fun j => by rw [hz, Int.mul_zero, Int.sub_zero]⟩ (h.span x), .inl h.len, fun p hp => by rw [← fB_0]; exact h.cA p hp, fun d hd hn => absurd (hz d) ((h.col d hd).2 hn)⟩
def normR (c : Nat) (row : List Int) : List Int := if 0 < row.getD c 0 then row else row.map fun z => -z
theorem neg_get (row : List Int) (j : Nat) : (row.map fun z => -z).getD j 0 = -row.getD j 0 := by
  rw [List.getD_eq_getElem?_getD, List.getElem?_map, List.getD_eq_getElem?_getD]
  cases row[j]? <;> rfl
theorem normR_len (c : Nat) (row : List Int) : (normR c row).length = row.length := by
  unfold normR
  split
  · rfl
  · exact List.length_map ..
theorem normR_get (c : Nat) (row : List Int) : ∃ s : Int, (s = 1 ∨ s = -1) ∧ (∀ j, (normR c row).getD j 0 = s * row.getD j 0) := by
  unfold normR
  split
  · exact ⟨1, .inl rfl, fun j => (Int.one_mul _).symm⟩
  · exact ⟨-1, .inr rfl, fun j => by rw [neg_get]; omega⟩
theorem WR.insert {w B j : Nat} {T0 T : Tops} {r0 r : List Int} (h : WR w B T0 r0 j T r) (hj : j < w) (hn : r.getD j 0 ≠ 0) (hk : ∀ p ∈ T, p.1 ≠ j) : WRes w B T0 r0 (insK j (normR j r) T) := by
  obtain ⟨s, hs, hg⟩ := normR_get j r
  have hp : Pv w (j, normR j r) := by
    refine ⟨hj, by rw [normR_len]; exact h.lr, fun i hi => ?_, ?_⟩
    · show (normR j r).getD i 0 = 0
      rw [hg, h.zr i hi, Int.mul_zero]
    · show 0 < (normR j r).getD j 0
      unfold normR
      split
      · assumption
      · rw [neg_get]
        omega
  have hcn : Cost (fB B T0.length (cnt j T)) (normR j r) := by
    unfold normR
    split
    · exact h.cr
    · intro x hx
      obtain ⟨y, hy, rfl⟩ := List.mem_map.mp hx
      rw [Int.natAbs_neg]
      exact h.cr y hy
  refine ⟨insK_ech h.E hp hk, fun x => Iff.trans ?_ (h.span x), .inr (by rw [insK_len, h.len]), fun p hp => ?_, fun d _ _ => by rw [insK_len, h.len]⟩
  · constructor
    · refine Spn.sub fun q hq => ?_
      obtain ⟨p, hp, rfl⟩ := List.mem_map.mp hq
      rcases mem_insK.mp hp with rfl | hp
      · exact ((Spn.head (rowsT T) r).smul s).cong fun i => (hg i).symm
      · exact (Spn.mem (List.mem_map.mpr ⟨p, hp, rfl⟩)).tail
    · refine Spn.sub fun q hq => ?_
      rcases List.mem_cons.mp hq with rfl | hq
      · have := (Spn.mem (R := rowsT (insK j (normR j q) T)) (r := normR j q) (List.mem_map.mpr ⟨(j, normR j q), mem_insK.mpr (.inl rfl), rfl⟩)).smul s
        refine this.cong fun i => ?_
        show s * (normR j q).getD i 0 = q.getD i 0
        rw [hg]
        rcases hs with rfl | rfl <;> omega
      · obtain ⟨p, hp, rfl⟩ := List.mem_map.mp hq
        exact Spn.mem (List.mem_map.mpr ⟨p, mem_insK.mpr (.inr hp), rfl⟩)
  · rw [← fB_0]
    rcases mem_insK.mp hp with rfl | hp
    · exact hcn.up (fB_mono (Nat.zero_le _))
    · exact h.cA p hp
/-- what cofactors tells -/
structure Cof (a b g u v : Int) : Prop where
  pos : 0 < g
  eq : g = u * a + v * b
  da : g ∣ a
  db : g ∣ b
  ub : u.natAbs ≤ b.natAbs
  vb : v.natAbs ≤ a.natAbs
theorem WR.merge {w B j : Nat} {T0 T : Tops} {r0 r t : List Int} {g u v : Int} (h : WR w B T0 r0 j T r) (hj : j < w) (hn : r.getD j 0 ≠ 0) (ht : (j, t) ∈ T) (c : Cof (t.getD j 0) (r.getD j 0) g u v) :
    WR w B T0 r0 (j + 1) (setK j (mixR u t v r) T) (redT (setK j (mixR u t v r) T) (mixR (t.getD j 0 / g) r (-(r.getD j 0 / g)) t)) ∧
    Cost (fB B T0.length 0) (mixR u t v r) ∧ Cost (fB B T0.length 0) (mixR (t.getD j 0 / g) r (-(r.getD j 0 / g)) t) := by
  have hpv := h.E.pv _ ht
  have lt : t.length = w := hpv.len
  have lr := h.lr
  have cB : Cost B t := h.cT _ ht (Nat.le_refl _)
  have hn1 : cnt j T = cnt (j + 1) T + 1 := cnt_step_at h.E ht rfl
  have hnk : cnt (j + 1) T + 1 ≤ T0.length := by rw [← hn1, ← h.len]; exact cnt_le j T
  have stp := fB_step (B := B) hnk
  rw [← hn1] at stp
  obtain ⟨α, ha⟩ := c.da
  obtain ⟨β, hb⟩ := c.db
  have g0 := c.pos
  have ea : t.getD j 0 / g = α := by rw [ha, Int.mul_ediv_cancel_left _ (by omega)]
  have eb : r.getD j 0 / g = β := by rw [hb, Int.mul_ediv_cancel_left _ (by omega)]
  have det : u * α + v * β = 1 := by
    have := c.eq
    rw [ha, hb] at this
    refine Int.eq_of_mul_eq_mul_left (show g ≠ 0 by omega) ?_
    rw [Int.mul_one]
    grind
  rw [ea, eb]
  have l1 : (mixR u t v r).length = w := mixR_len lt lr
  have l2 : (mixR α r (-β) t).length = w := mixR_len lr lt
  have g1 := mixR_get (a := u) (b := v) lt lr
  have g2 := mixR_get (a := α) (b := -β) lr lt
  have ca : 2 * α.natAbs < 2 ^ B := by
    have h1 := cB.at j
    have h2 : α.natAbs ≤ (t.getD j 0).natAbs := by rw [← ea]; exact Int.natAbs_ediv_le_natAbs _ _
    omega
  have cb : 2 * (-β).natAbs < 2 ^ fB B T0.length (cnt j T) := by
    have h1 := h.cr.at j
    have h2 : β.natAbs ≤ (r.getD j 0).natAbs := by rw [← eb]; exact Int.natAbs_ediv_le_natAbs _ _
    rw [Int.natAbs_neg]
    omega
  have c1 : Cost (fB B T0.length (cnt j T) + B) (mixR u t v r) := by
    have h1 := c.ub
    have h2 := c.vb
    have h3 := h.cr.at j
    have h4 := cB.at j
    exact mixR_cost (by omega) cB (by omega) h.cr
  have c2 : Cost (B + fB B T0.length (cnt j T)) (mixR α r (-β) t) := mixR_cost ca h.cr cb cB
  have hBn : B ≤ cnt j T * B := Nat.le_mul_of_pos_left B (by omega)
  have top0 : fB B T0.length (cnt j T) + B ≤ fB B T0.length 0 := by
    have := fB_mono (B := B) (k := T0.length) (Nat.zero_le (cnt (j + 1) T))
    omega
  have hz2 : ∀ i, i ≤ j → (mixR α r (-β) t).getD i 0 = 0 := fun i hi => by
    rw [g2]
    by_cases e : i = j
    · rw [e, ha, hb]
      grind
    · rw [h.zr i (by omega), hpv.zero i (by show i < j; omega), Int.mul_zero, Int.mul_zero]
      rfl
  have hp : Pv w (j, mixR u t v r) := by
    refine ⟨hj, l1, fun i hi => ?_, ?_⟩
    · show (mixR u t v r).getD i 0 = 0
      rw [g1, h.zr i hi, hpv.zero i hi, Int.mul_zero, Int.mul_zero]
      rfl
    · show 0 < (mixR u t v r).getD j 0
      rw [g1, ← c.eq]
      exact g0
  have E' := setK_ech (t := mixR u t v r) h.E hp
  have lT : ∀ p ∈ setK j (mixR u t v r) T, p.2.length = w := fun p hp => (E'.pv p hp).len
  -- only the pivots behind j count
  obtain ⟨S, hS⟩ : ∃ S, setK j (mixR u t v r) T = S := ⟨_, rfl⟩
  rw [hS] at E' lT
  have hkeys : S.map (·.1) = T.map (·.1) := by rw [← hS]; exact setK_keys ..
  have split : ∀ {S : Tops}, Ech w S → ∃ S1 S2, S = S1 ++ S2 ∧ (∀ p ∈ S1, p.1 ≤ j) ∧ (∀ p ∈ S2, j < p.1) ∧ Ech w S2 ∧ S2.length = cnt (j + 1) S := fun {S} E => by
    induction S with
    | nil => exact ⟨[], [], rfl, fun p hp => (by cases hp), fun p hp => (by cases hp), E, rfl⟩
    | cons q S ih =>
      by_cases hq : q.1 ≤ j
      · obtain ⟨S1, S2, e, h1, h2, h3, h4⟩ := ih E.tail
        refine ⟨q :: S1, S2, by rw [e]; rfl, fun p hp => ?_, h2, h3, ?_⟩
        · rcases List.mem_cons.mp hp with rfl | hp
          · exact hq
          · exact h1 p hp
        · unfold cnt at h4 ⊢
          rw [List.filter_cons, if_neg (by simpa using (show ¬ (j + 1 ≤ q.1) by omega))]
          exact h4
      · obtain ⟨_, hl⟩ := E.head
        have hall : ∀ p ∈ q :: S, j < p.1 := fun p hp => by
          rcases List.mem_cons.mp hp with rfl | hp
          · omega
          · have := hl p hp
            omega
        refine ⟨[], q :: S, rfl, fun p hp => (by cases hp), hall, E, ?_⟩
        unfold cnt
        rw [List.filter_eq_self.mpr fun p hp => decide_eq_true (show j + 1 ≤ p.1 from hall p hp)]
  obtain ⟨S1, S2, eS, hS1, hS2, E2, n2⟩ := split E'
  have er : redT S (mixR α r (-β) t) = redT S2 (mixR α r (-β) t) := by
    rw [eS, redT_app, redT_skip fun p hp => hz2 p.1 (hS1 p hp)]
  have cS2 : ∀ p ∈ S2, Cost B p.2 := fun p hp => by
    have h1 : p ∈ setK j (mixR u t v r) T := by rw [hS, eS]; exact List.mem_append_right _ hp
    rcases mem_setK h1 with rfl | ⟨h2, _⟩
    · exact absurd (hS2 _ hp) (Nat.lt_irrefl _)
    · exact h.cT p h2 (Nat.le_of_lt (hS2 p hp))
  have n2' : S2.length = cnt (j + 1) T := by rw [n2]; exact cnt_keys hkeys
  have hlS : ∀ p ∈ S2, p.2.length = w := fun p hp => (E2.pv p hp).len
  rw [hS]
  refine ⟨⟨E', redT_len lT l2, fun i hi => ?_, fun x => Iff.trans ?_ (h.span x), hkeys.trans h.keys, ?_, fun p hp hjp => ?_, fun p hp => ?_, fun d hd => ?_⟩, c1.up top0, c2.up (by omega)⟩
  · rw [er, redT_before E2 hS2 l2 (show i ≤ j by omega)]
    exact hz2 i (by omega)
  · -- the span
    have hs := redT_span lT l2
    have mt : (mixR u t v r) ∈ rowsT S := by
      rw [← hS]
      exact List.mem_map.mpr ⟨_, setK_at ht rfl, rfl⟩
    constructor
    · refine Spn.sub fun q hq => ?_
      have mS : ∀ q ∈ rowsT S, Spn (r :: rowsT T) (fun j => q.getD j 0) := fun q hq => by
        rw [← hS] at hq
        obtain ⟨p, hp, rfl⟩ := List.mem_map.mp hq
        rcases mem_setK hp with rfl | ⟨hp, _⟩
        · have k1 := ((Spn.mem (R := rowsT T) (List.mem_map.mpr ⟨_, ht, rfl⟩)).tail (r := r)).smul u
          have k2 := (Spn.head (rowsT T) r).smul v
          exact (k1.add k2).cong fun i => (g1 i).symm
        · exact (Spn.mem (List.mem_map.mpr ⟨p, hp, rfl⟩)).tail
      rcases List.mem_cons.mp hq with rfl | hq
      · have k1 := ((Spn.mem (R := rowsT T) (List.mem_map.mpr ⟨_, ht, rfl⟩)).tail (r := r)).smul (-β)
        have k2 := (Spn.head (rowsT T) r).smul α
        have k3 := (Spn.sub mS hs).smul (-1)
        refine ((k2.add k1).add k3).cong fun i => ?_
        have := g2 i
        show α * r.getD i 0 + -β * t.getD i 0 + -1 * ((mixR α r (-β) t).getD i 0 - (redT S (mixR α r (-β) t)).getD i 0) = (redT S (mixR α r (-β) t)).getD i 0
        omega
      · exact mS q hq
    · refine Spn.sub fun q hq => ?_
      have k0 : Spn (redT S (mixR α r (-β) t) :: rowsT S) (fun i => (mixR α r (-β) t).getD i 0) :=
        ((Spn.head (rowsT S) (redT S (mixR α r (-β) t))).add hs.tail).cong fun i => by
          show (redT S (mixR α r (-β) t)).getD i 0 + ((mixR α r (-β) t).getD i 0 - (redT S (mixR α r (-β) t)).getD i 0) = (mixR α r (-β) t).getD i 0
          omega
      have k1 : Spn (redT S (mixR α r (-β) t) :: rowsT S) (fun i => (mixR u t v r).getD i 0) := (Spn.mem mt).tail
      rcases List.mem_cons.mp hq with rfl | hq
      · refine ((k1.smul β).add (k0.smul u)).cong fun i => ?_
        show β * (mixR u t v q).getD i 0 + u * (mixR α q (-β) t).getD i 0 = q.getD i 0
        rw [g1, g2]
        have : (u * α + v * β) * q.getD i 0 = q.getD i 0 := by rw [det, Int.one_mul]
        grind
      · obtain ⟨p, hp, rfl⟩ := List.mem_map.mp hq
        by_cases e : p.1 = j
        · have ep : p = (j, t) := key_one h.E hp ht e
          subst ep
          refine ((k1.smul α).add (k0.smul (-v))).cong fun i => ?_
          show α * (mixR u t v r).getD i 0 + -v * (mixR α r (-β) t).getD i 0 = t.getD i 0
          rw [g1, g2]
          have : (u * α + v * β) * t.getD i 0 = t.getD i 0 := by rw [det, Int.one_mul]
          grind
        · refine (Spn.mem (List.mem_map.mpr ⟨p, ?_, rfl⟩)).tail
          rw [← hS]
          exact setK_off hp e
  · -- the size of the row
    rw [er, cnt_keys hkeys]
    refine (redT_cost E2 cS2 c2).up ?_
    rw [n2']
    have e1 : (cnt j T) * B = cnt (j + 1) T * B + B := by rw [hn1, Nat.add_mul, Nat.one_mul]
    omega
  · have h1 : p ∈ setK j (mixR u t v r) T := by rw [hS]; exact hp
    rcases mem_setK h1 with rfl | ⟨h2, _⟩
    · exact absurd hjp (by show ¬ j + 1 ≤ j; omega)
    · exact h.cT p h2 (by omega)
  · have h1 : p ∈ setK j (mixR u t v r) T := by rw [hS]; exact hp
    rcases mem_setK h1 with rfl | ⟨h2, _⟩
    · exact c1.up top0
    · exact h.cA p h2
  · obtain ⟨k1, k2⟩ := h.col d hd
    have hS2d : ∀ p ∈ S2, p.2.length = w ∧ p.2.getD d 0 = 0 := fun p hp => by
      have h1 : p ∈ setK j (mixR u t v r) T := by rw [hS, eS]; exact List.mem_append_right _ hp
      rcases mem_setK h1 with rfl | ⟨h2, _⟩
      · exact absurd (hS2 _ hp) (Nat.lt_irrefl _)
      · exact ⟨hlS p hp, k1 p h2 (Nat.le_of_lt (hS2 p hp))⟩
    refine ⟨fun p hp hjp => ?_, fun hr0 => ?_⟩
    · have h1 : p ∈ setK j (mixR u t v r) T := by rw [hS]; exact hp
      rcases mem_setK h1 with rfl | ⟨h2, _⟩
      · exact absurd hjp (by show ¬ j + 1 ≤ j; omega)
      · exact k1 p h2 (by omega)
    · rw [er, redT_col hS2d l2, g2, k1 _ ht (Nat.le_refl _), Int.mul_zero, Int.add_zero]
      refine Int.mul_ne_zero ?_ (k2 hr0)
      intro e
      rw [e, Int.mul_zero] at ha
      have := hpv.pos
      have h9 : 0 < t.getD j 0 := this
      omega
end Gm
/-! a dict of rows by columns -/
namespace Gm
open PySem PySem.Spec PyProof.Rows L2
def keyT (T : Tops) : List Key := T.map fun p => Sum.inl (p.1 : Int)
/-- at a there is a dict whose keys are the columns of the pivots -/
def DT (K : Frag) (H : Hp) (a : Addr) (T : Tops) : Prop := ∃ kvs : List (Key × V), H a = some (.dK kvs) ∧ (kvs.map (·.1)).Perm (keyT T) ∧ ∀ p ∈ T, ∃ v, valV kvs (Sum.inl (p.1 : Int)) = some v ∧ TRow K H v p.2
theorem DT.same {K : Frag} {H H' : Hp} {a : Addr} {T : Tops} (s : Same H H') (h : DT K H a T) : DT K H' a T :=
  let ⟨kvs, e, pk, hv⟩ := h; ⟨kvs, s _ _ e, pk, fun p hp => let ⟨v, ev, hr⟩ := hv p hp; ⟨v, ev, TRow.same s hr⟩⟩
theorem DT.nil {K : Frag} {H : Hp} {a : Addr} : DT K (upd H a (.dK [])) a [] := ⟨[], upd_same, List.Perm.nil, fun p hp => (by cases hp)⟩
theorem keyT_mem {T : Tops} {j : Nat} : Sum.inl (j : Int) ∈ keyT T ↔ ∃ p ∈ T, p.1 = j := by
  unfold keyT
  rw [List.mem_map]
  constructor
  · rintro ⟨p, hp, e⟩
    refine ⟨p, hp, ?_⟩
    have := Sum.inl.inj e
    omega
  · rintro ⟨p, hp, rfl⟩
    exact ⟨p, hp, rfl⟩
theorem DT.get {K : Frag} {H : Hp} {a : Addr} {T : Tops} {p : Nat × List Int} (h : DT K H a T) (hp : p ∈ T) : ∃ v, DGet H a (.int (p.1 : Int)) (some v) ∧ TRow K H v p.2 := by
  obtain ⟨kvs, e, pk, hv⟩ := h
  obtain ⟨v, ev, hr⟩ := hv p hp
  exact ⟨v, .inl ⟨kvs, Sum.inl (p.1 : Int), .inl e, rfl, ev.symm⟩, hr⟩
theorem DT.has {K : Frag} {H : Hp} {a : Addr} {T : Tops} (h : DT K H a T) (j : Nat) : ∃ o, DGet H a (.int (j : Int)) o ∧ (o.isSome = true ↔ ∃ p ∈ T, p.1 = j) := by
  obtain ⟨kvs, e, pk, hv⟩ := h
  refine ⟨valV kvs (Sum.inl (j : Int)), .inl ⟨kvs, Sum.inl (j : Int), .inl e, rfl, rfl⟩, ?_⟩
  rw [← keyT_mem, ← pk.mem_iff]
  constructor
  · intro hs
    cases hval : valV kvs (Sum.inl (j : Int)) with
    | none => rw [hval] at hs; cases hs
    | some v => exact valV_in hval
  · intro hm
    cases hval : valV kvs (Sum.inl (j : Int)) with
    | none => exact absurd hm (valV_not hval)
    | some v => rfl
theorem DT.len {K : Frag} {H : Hp} {a : Addr} {T : Tops} {kvs : List (Key × V)} (e : H a = some (.dK kvs)) (h : DT K H a T) : kvs.length = T.length := by
  obtain ⟨kvs', e', pk, _⟩ := h
  rw [e] at e'
  cases e'
  have := pk.length_eq
  unfold keyT at this
  rw [List.length_map, List.length_map] at this
  exact this
theorem putK_keys_old {kvs : List (Key × V)} {k : Key} {v : V} (h : valV kvs k ≠ none) : (putK kvs k v).map (·.1) = kvs.map (·.1) := by
  unfold putK
  rw [if_pos (by rw [valV_any]; exact Option.isSome_iff_ne_none.mpr h), List.map_map]
  refine List.map_congr_left fun p _ => ?_
  show (if p.1 = k then (p.1, v) else p).1 = p.1
  split <;> rfl
/-- a row in the place of another -/
theorem DT.set {K : Frag} {H : Hp} {a : Addr} {T : Tops} {j : Nat} {t' : List Int} {v : V} (h : DT K H a T) (hl : T.length < 1000) (hj : ∃ p ∈ T, p.1 = j) (hv : TRow K H v t') : ∃ H', DPut H a (.int (j : Int)) v H' ∧ DT K H' a (setK j t' T) ∧ ∀ b o, b ≠ a → H b = some o → H' b = some o := by
  have hlen := fun {kvs} e => DT.len (kvs := kvs) e h
  obtain ⟨kvs, e, pk, hval⟩ := h
  have hsz : kvs.length < sizeLine := by rw [hlen e]; exact small1000 (by omega)
  have hold : valV kvs (Sum.inl (j : Int)) ≠ none := fun z => by
    obtain ⟨p, hp, rfl⟩ := hj
    obtain ⟨w, ew, _⟩ := hval p hp
    rw [z] at ew
    cases ew
  have hoff : ∀ b o, b ≠ a → H b = some o → (upd H a (.dK (putK kvs (Sum.inl (j : Int)) v))) b = some o := fun b o n x => by rw [L2.upd_ne n]; exact x
  have hrow : ∀ {w : V} {r : List Int}, TRow K H w r → TRow K (upd H a (.dK (putK kvs (Sum.inl (j : Int)) v))) w r := fun {w r} ⟨b, eb, hb⟩ => by
    refine ⟨b, eb, ?_⟩
    rcases hb with (hb | ⟨o, hb⟩) | hb
    · exact .inl (.inl (hoff _ _ (ne_of hb e (by intro z; cases z)) hb))
    · exact .inl (.inr ⟨o, hoff _ _ (ne_of hb e (by intro z; cases z)) hb⟩)
    · exact .inr hb
  refine ⟨_, DPut.k (k := Sum.inl (j : Int)) e hsz, ⟨_, upd_same, ?_, fun p hp => ?_⟩, hoff⟩
  · rw [putK_keys_old hold]
    have : keyT (setK j t' T) = keyT T := by
      unfold keyT
      have := setK_keys j t' T
      have e2 : ∀ S : Tops, (S.map fun p => (Sum.inl (p.1 : Int) : Key)) = (S.map (fun p => p.1)).map fun (c : Nat) => (Sum.inl (c : Int) : Key) := fun S => by rw [List.map_map]; rfl
      rw [e2, e2, this]
    rw [this]
    exact pk
  · rw [valV_put]
    rcases mem_setK hp with rfl | ⟨hp, hn⟩
    · exact ⟨v, by rw [if_pos rfl], hrow hv⟩
    · obtain ⟨w, ew, hr⟩ := hval p hp
      refine ⟨w, ?_, hrow hr⟩
      rw [if_neg fun z => hn (by have := Sum.inl.inj z; omega)]
      exact ew
/-- one more row -/
theorem DT.ins {K : Frag} {H : Hp} {a : Addr} {T S : Tops} {j : Nat} {t' : List Int} {v : V} (h : DT K H a T) (hl : T.length < 1000) (hj : ∀ p ∈ T, p.1 ≠ j) (hv : TRow K H v t') (hS : S.Perm ((j, t') :: T)) : ∃ H', DPut H a (.int (j : Int)) v H' ∧ DT K H' a S ∧ ∀ b o, b ≠ a → H b = some o → H' b = some o := by
  have hlen := fun {kvs} e => DT.len (kvs := kvs) e h
  obtain ⟨kvs, e, pk, hval⟩ := h
  have hsz : kvs.length < sizeLine := by rw [hlen e]; exact small1000 (by omega)
  have hnew : valV kvs (Sum.inl (j : Int)) = none := by
    cases hv : valV kvs (Sum.inl (j : Int)) with
    | none => rfl
    | some v =>
      have := pk.mem_iff.mp (valV_in hv)
      obtain ⟨p, hp, ep⟩ := keyT_mem.mp this
      exact absurd ep (hj p hp)
  have hoff : ∀ b o, b ≠ a → H b = some o → (upd H a (.dK (putK kvs (Sum.inl (j : Int)) v))) b = some o := fun b o n x => by rw [L2.upd_ne n]; exact x
  have hrow : ∀ {w : V} {r : List Int}, TRow K H w r → TRow K (upd H a (.dK (putK kvs (Sum.inl (j : Int)) v))) w r := fun {w r} ⟨b, eb, hb⟩ => by
    refine ⟨b, eb, ?_⟩
    rcases hb with (hb | ⟨o, hb⟩) | hb
    · exact .inl (.inl (hoff _ _ (ne_of hb e (by intro z; cases z)) hb))
    · exact .inl (.inr ⟨o, hoff _ _ (ne_of hb e (by intro z; cases z)) hb⟩)
    · exact .inr hb
  refine ⟨_, DPut.k (k := Sum.inl (j : Int)) e hsz, ⟨_, upd_same, ?_, fun p hp => ?_⟩, hoff⟩
  · rw [putK_new v hnew, List.map_append]
    have h1 : (keyT S).Perm (keyT ((j, t') :: T)) := hS.map _
    refine List.Perm.trans ?_ h1.symm
    show ((kvs.map fun (kv : Key × V) => kv.1) ++ [(Sum.inl (j : Int) : Key)]).Perm ((Sum.inl (j : Int) : Key) :: keyT T)
    exact (List.perm_append_comm).trans (List.Perm.cons _ pk)
  · rw [valV_put]
    have hp := hS.mem_iff.mp hp
    rcases List.mem_cons.mp hp with rfl | hp
    · exact ⟨v, by rw [if_pos rfl], hrow hv⟩
    · obtain ⟨w, ew, hr⟩ := hval p hp
      refine ⟨w, ?_, hrow hr⟩
      rw [if_neg fun z => hj p hp (by have := Sum.inl.inj z; omega)]
      exact ew
theorem insK_perm {j : Nat} {r : List Int} : ∀ {T : Tops}, (insK j r T).Perm ((j, r) :: T)
  | [] => List.Perm.refl _
  | p :: T => by
    unfold insK
    split
    · exact (List.Perm.cons p insK_perm).trans (List.Perm.swap ..)
    · exact List.Perm.refl _
/-! ### sorted -/
theorem sorted_uniq : ∀ {xs ys : List Int}, xs.Perm ys → xs.Pairwise (· ≤ ·) → ys.Pairwise (· ≤ ·) → xs = ys
  | [], ys, h, _, _ => (List.nil_perm.mp h).symm
  | x :: xs, [], h, _, _ => (List.perm_nil.mp h)
  | x :: xs, y :: ys, h, hx, hy => by
    obtain ⟨hx1, hx2⟩ := List.pairwise_cons.mp hx
    obtain ⟨hy1, hy2⟩ := List.pairwise_cons.mp hy
    have e : x = y := by
      have h1 : x ∈ y :: ys := h.mem_iff.mp (List.mem_cons_self ..)
      have h2 : y ∈ x :: xs := h.mem_iff.mpr (List.mem_cons_self ..)
      rcases List.mem_cons.mp h1 with e | h1
      · exact e
      · rcases List.mem_cons.mp h2 with e | h2
        · exact e.symm
        · have := hx1 y h2
          have := hy1 x h1
          omega
    subst e
    rw [sorted_uniq (List.Perm.cons_inv h) hx2 hy2]
def colT (T : Tops) : List Int := T.map fun p => (p.1 : Int)
theorem colT_asc {w : Nat} {T : Tops} (E : Ech w T) : (colT T).Pairwise (· ≤ ·) := by
  unfold colT
  rw [List.pairwise_map]
  exact E.asc.imp fun h => by omega
theorem DT.keys {K : Frag} {H : Hp} {a : Addr} {T : Tops} (h : DT K H a T) : ∃ (kvs : List (Key × V)) (ks : List Int), Rd H a (.dK kvs) ∧ kvs.map (·.1) = ks.map Sum.inl ∧ ks.Perm (colT T) := by
  obtain ⟨kvs, e, pk, _⟩ := h
  have ex : ∀ l : List Key, (∀ k ∈ l, ∃ i : Int, k = Sum.inl i) → ∃ ks : List Int, l = ks.map Sum.inl := fun l => by
    induction l with
    | nil => intro _; exact ⟨[], rfl⟩
    | cons k l ih =>
      intro hh
      obtain ⟨i, rfl⟩ := hh k (List.mem_cons_self ..)
      obtain ⟨ks, e⟩ := ih fun k hk => hh k (List.mem_cons_of_mem _ hk)
      exact ⟨i :: ks, by rw [e]; rfl⟩
  obtain ⟨ks, eks⟩ := ex (kvs.map (·.1)) fun k hk => by
    have := pk.mem_iff.mp hk
    obtain ⟨p, _, rfl⟩ := List.mem_map.mp this
    exact ⟨_, rfl⟩
  refine ⟨kvs, ks, .inl e, eks, ?_⟩
  rw [eks] at pk
  have h2 : (ks.map (Sum.inl : Int → Key)).Perm ((colT T).map Sum.inl) := by
    unfold colT
    rw [List.map_map]
    exact pk
  have h3 := h2.filterMap (fun k : Key => match k with | .inl i => some i | .inr _ => none)
  rw [List.filterMap_map, List.filterMap_map] at h3
  have e3 : ∀ l : List Int, l.filterMap ((fun k : Key => match k with | .inl i => some i | .inr _ => none) ∘ Sum.inl) = l := fun l => by
    induction l with
    | nil => rfl
    | cons i l ih => rw [List.filterMap_cons]; show i :: _ = _; rw [ih]
  rw [e3, e3] at h3
  exact h3
theorem cols_eq {w : Nat} {T : Tops} {ks ys : List Int} (E : Ech w T) (hk : ks.Perm (colT T)) (hy : ys.Perm ks) (ho : ys.Pairwise (· ≤ ·)) : ys = colT T := sorted_uniq (hy.trans hk) ho (colT_asc E)
theorem cols_rev {w : Nat} {T : Tops} {ks ys : List Int} (E : Ech w T) (hk : ks.Perm (colT T)) (hy : ys.Perm ks) (ho : OrdB true ys) : ys = (colT T).reverse := by
  have h1 : ys.reverse.Pairwise (· ≤ ·) := by
    rw [List.pairwise_reverse]
    exact ho
  have h2 := sorted_uniq ((List.reverse_perm ys).trans (hy.trans hk)) h1 (colT_asc E)
  rw [← h2, List.reverse_reverse]
end Gm
/-! try with one clause that names two classes and whose suite raises anew -/
namespace Gm
open PySem PySem.Spec PyProof.Rows L2 HotX L2H
def wPair (K : PySem.W.Frag) (c₁ c₂ : Value) (ts : Addr → Value → Option Addr → TS) (D : Ends) : WX := fun cls d σ H => PySem.W.exmAny K cls [c₁, c₂] = some true ∧ ∀ a, H a = none → ts a cls d D σ H
theorem flying_push {B h : Heap} {l : List Env} {a : Addr} {Z : Obj → Prop} (o : Obj) (x : HandSPX.FlyingZ B l a Z h) : HandSPX.FlyingZ B l a Z (h.push o) := by
  obtain ⟨st, na, ff, oe, vs, T, oT, ts, q1, q2, q3, q4, q5, q6, q7, q8⟩ := x
  have up : ∀ b u, h.get? b = some u → (h.push o).get? b = some u := fun b u e => Heap.get?_push_of_some _ e
  exact ⟨fun b u e => up _ _ (st b u e), na, ff.of_keeps fun b u e _ => ⟨u, up _ _ e, rfl⟩, oe, vs, T, oT, ts, up _ _ q1, q2, q3, q4, q5, q6, up _ _ q7, q8⟩
section
variable {X : Cx} {x₁ x₂ : Str} {c₁ c₂ : Value} {body suite : List Stmt} {b₀ : Stmt} {p₁ p₂ tp hp pos : Pos} {kk : Nat} {tb : WX → TS} {ts : Addr → Value → Option Addr → TS} {Wout : WX}
theorem ps_try_pairX (hs : X.stack = X.env :: X.outer) (hf : X.env.frame = some X.env.locals) (n₁ : Names X x₁ c₁) (n₂ : Names X x₂ c₂)
    (hpa : ∀ hd : Option Value, PassesOwnAt (model X.prog X.w) (X.A.mark hd) X.A X.env X.xe) (tk : L2.Takes X Wout)
    (hb : ∀ (W : WX) (pn : List (Addr × Obj)) (xe : Value → Shared → Prop), L2N.Takes (X.tr pn xe) W → PassesOwn (model X.prog X.w) X.A X.env xe → PSs (X.tr pn xe) body (tb W))
    (hsu : ∀ (a : Addr) (oe : Obj) (cls : Value) (d : Option Addr) (pn : List (Addr × Obj)), L2.Takes (suiteX X a ((a, oe) :: pn)) Wout → HotC (suiteX X a ((a, oe) :: pn)) → PSs (suiteX X a ((a, oe) :: pn)) (b₀ :: suite) (ts a cls d)) :
    PS X (.Try body [.ExceptHandler (some (.Tuple [.Name x₁ p₁, .Name x₂ p₂] kk tp)) none (b₀ :: suite) hp] [] [] pos) (fun D σ H => tb (wPair X.K c₁ c₂ ts D) D σ H) := by
  refine ⟨fun pins s σ H D I h => ?_⟩
  have ok := I.ok
  have hfr : X.A.frames = some (X.env :: X.outer) := by rw [ok.frames, hs]
  refine wpAny_Try_except ?_
  refine wpAny_mono ((hb (wPair X.K c₁ c₂ ts D) (X.pn ++ pins) (fun e sa => wpAny (model X.prog X.w) X.A (noteFrame e X.env) (fun _ sb => wpAny (model X.prog X.w) X.A (setFlight e none) (fun _ sc =>
    wpAny (model X.prog X.w) X.A (handleBy e X.env [.ExceptHandler (some (.Tuple [.Name x₁ p₁, .Name x₂ p₂] kk tp)) none (b₀ :: suite) hp]) (SP X pins D) X.xe sc) X.xe sb) X.xe sa) (fun u s' xx => ?caught) PassesOwn.looking).run [] s σ H D (I.toTry _) h) (fun f s1 hsp => ?ends) (fun e s1 he => he)
  case ends =>
    cases f with
    | next => exact let ⟨_, _, J, q⟩ := hsp; wpAny_execs_nil ⟨_, _, J.ofTry ok, q⟩
    | brk => exact let ⟨_, _, J, q⟩ := hsp; ⟨_, _, J.ofTry ok, q⟩
    | cont => exact let ⟨_, _, J, q⟩ := hsp; ⟨_, _, J.ofTry ok, q⟩
    | ret u => exact let ⟨_, _, _, J, r, q⟩ := hsp; ⟨_, _, _, J.ofTry ok, r, q⟩
  case caught =>
    obtain ⟨a, B, sI, pins', σ', H', cls, d, rfl, J', nb, up, sky, na, os, ag, hm, w⟩ := xx
    have J : Inv X pins σ' H' sI := J'.ofTry ok
    rw [show (X.tr (X.pn ++ pins) _).stack = X.env :: X.outer from hs] at sky
    show wpAny (model X.prog X.w) X.A (noteFrame (.ref a) X.env) _ _ _
    refine L2N.Sky.land L2N.Zn.steady hfr hf sky fun h3 fl3 up3 => ?_
    have J3 : Inv X pins σ' H' { s' with heap := h3 } := J.landed nb fl3.1 (up.trans up3) os ag
    obtain ⟨oe3, vs3, he3, hz3, hd3⟩ := fl3.there
    have nfr : a ∉ frs (X.env :: X.outer) := fun q => by
      obtain ⟨_, o', e', hnf⟩ := fl3.2.2.1.mem q
      rw [he3] at e'
      cases e'
      exact hnf _ hd3
    have nL : a ≠ X.env.locals := fun z => nfr (List.mem_filterMap.mpr ⟨X.env, List.mem_cons_self, by rw [hf, z]⟩)
    have nF : a ∉ X.fs := fun q => by
      obtain ⟨e, he, q⟩ := List.mem_filterMap.mp q
      exact nfr (List.mem_filterMap.mpr ⟨e, List.mem_cons_of_mem _ he, q⟩)
    have S3 := J3.suite he3 hd3 na nL nF
    have nm : ∀ {x : Str} {c : Value} {np : Pos} {Q : Value → Shared → Prop} {E : Value → Shared → Prop}, Names X x c → Q c { s' with heap := h3 } → wpAny (model X.prog X.w) (X.A.mark (some (.ref a))) (eval (.Name x np) X.env) Q E { s' with heap := h3 } := fun {x c np Q E} hc q => by
      obtain ⟨hg, hdbg, hm | ⟨hm, hv, hnn⟩⟩ := hc
      · exact ld_glob (X := X.suite a ((a, oe3) :: (X.pn ++ pins))) S3 hg hm q hdbg
      · exact ld_blt (X := X.suite a ((a, oe3) :: (X.pn ++ pins))) S3 hg hm hv q hnn hdbg
    refine wpAny_handleBy_cons (codeAny_handlers_test ?_) (by intro q; cases q)
    refine wpAny_Tuple ?_
    refine wpAny_items_cons (nm n₁ ?_)
    refine wpAny_items_cons (nm n₂ ?_)
    refine wpAny_items_nil ⟨by size_fits, ?_⟩
    have kp : ∀ q o, h3.get? q = some o → (h3.push { cls := .type "tuple", data := .seq [c₁, c₂].toArray }).get? q = some o := fun _ _ z => Heap.get?_push_of_some _ z
    have LT : PySem.W.Looks (model X.prog X.w) (h3.push { cls := .type "tuple", data := .seq [c₁, c₂].toArray }) (typeOf (.ref a)) cls := fun A Q E s k q => wpAny_typeOf_ref (k _ _ (kp _ _ he3)) (by rw [hz3.1]; exact q)
    have fl5 := flying_push { cls := .type "tuple", data := .seq [c₁, c₂].toArray } fl3
    have J5 := J3.kept (t' := s'.toks) kp
    refine (PySem.W.exm_tup2 (M := model X.prog X.w) J5.kIn LT (Heap.get?_push_size h3 rfl) hm).here ?_
    refine codeAny_handlers_suite ?_
    refine HandSPX.lands_againZ fl5 fun h4 fl4 up4 => ?_
    have J4 : Inv X pins σ' H' { s' with heap := h4 } := J.landed nb fl4.1 (((up.trans up3).trans (Heap.UpToSlots.of_keeps kp)).trans up4) os ag
    obtain ⟨oe4, vs4, he4, hz4, hd4⟩ := fl4.there
    have S4 := J4.suite he4 hd4 na nL nF
    have tkS : L2.Takes (suiteX X a ((a, oe4) :: (X.pn ++ pins))) Wout := fun u2 s2 x2 => by
      obtain ⟨a2, B2, sI2, pn2, σ2, H2, cls2, d2, e2, I2, rest2⟩ := x2
      exact tk u2 s2 ⟨a2, B2, sI2, pins, σ2, H2, cls2, d2, e2, unsuiteX I2 ok, rest2⟩
    have hot : HotC (suiteX X a ((a, oe4) :: (X.pn ++ pins))) := ⟨(a, oe4), ⟨rfl, vs4, hd4, hz4.2.2 vs4 hd4⟩, List.mem_cons_self⟩
    refine wpAny_mono ((hsu a oe4 cls d (X.pn ++ pins) tkS hot).run [] _ _ H' _ (suiteX_of S4) (w a na)) (fun f s6 hsp => ?_) (fun e6 s6 z => hpa (some (.ref a)) e6 s6 z)
    cases f with
    | next => exact let ⟨_, _, S6, q⟩ := hsp; ⟨_, _, unsuiteX S6 ok, q⟩
    | brk => exact let ⟨_, _, S6, q⟩ := hsp; ⟨_, _, unsuiteX S6 ok, q⟩
    | cont => exact let ⟨_, _, S6, q⟩ := hsp; ⟨_, _, unsuiteX S6 ok, q⟩
    | ret u => exact let ⟨_, _, _, S6, r, q⟩ := hsp; ⟨_, _, _, unsuiteX S6 ok, r, q⟩
end
end Gm
/-! a def whose exceptions have no context; C(e, ..) of an own class with its __init__, told with that -/
namespace Gm
open PySem PySem.Spec PyProof.Rows L2 HotX L2H
section
variable {P : Program} {w : World} {K : PySem.W.Frag} {mg : Str → Option Value} {base : Heap}
theorem okN {x qual : Str} {st : Stmt} {f : Addr} {fd : FuncData} {N ps : List Str} {k : Nat} {sp : Sp} (F : Fun K x qual st f fd) (S : FnScope N ps (defScope st)) (ln : ∀ vs H Q E, sp vs H Q E → vs.length = ps.length)
    (hb : ∀ (cdv : Value) (A : Around) (outer : List Env) (s : Shared) (H : Hp) (vs : List V) (Q : VK) (E : XK), Room k (A.deeper (envOfC qual (defScope st) s.heap.objs.size f cdv)) → sp vs H Q E →
      ∃ t, PSs (cxOf (L2N.CX P w) P w K mg base N qual (defScope st) f cdv A outer s H E) (defBody st) t ∧ t { nx := fun _ H' => Q .non H', rt := Q } (start N vs) H) : FnOk P w K mg base (L2N.CX P w) (k + 1) f fd ps sp := by
  obtain ⟨_, _, _, _, _, _, cdv, _, _, rfl, lk, hcd⟩ := F.ex
  exact fn_of lk hcd S ln fun A outer s H vs Q E hr q => hb cdv A outer s H vs Q E hr q
end
section
variable {P : Program} {w : World} {K : PySem.W.Frag} {mg : Str → Option Value} {base : Heap}
/-- a def that runs while an exception is handled -/
theorem okHot {CX : CXT} {x qual : Str} {st : Stmt} {f : Addr} {fd : FuncData} {N ps : List Str} {k : Nat} {sp : Sp} (F : Fun K x qual st f fd) (S : FnScope N ps (defScope st)) (ln : ∀ vs H Q E, sp vs H Q E → vs.length = ps.length)
    (hb : ∀ (cdv : Value) (A : Around) (outer : List Env) (s : Shared) (H : Hp) (vs : List V) (Q : VK) (E : XK) (p : Addr × Obj), Hot1 A p → RoomH k (A.deeper (envOfC qual (defScope st) s.heap.objs.size f cdv)) → sp vs H Q E →
      ∃ t, PSs (cxH CX P w K mg base N qual (defScope st) f cdv A outer s H E p) (defBody st) t ∧ t { nx := fun _ H' => Q .non H', rt := Q } (start N vs) H) : FnH P w K mg base CX (k + 1) f fd ps sp := by
  obtain ⟨_, _, _, _, _, _, cdv, _, _, rfl, lk, hcd⟩ := F.ex
  exact fn_ofH lk hcd S ln fun A outer s H vs Q E p ht hr q => hb cdv A outer s H vs Q E p ht hr q
end
section
variable {X : Cx} {e : Expr} {es : List Expr} {ta : TA} {p pos : Pos}
theorem pmk_oexN {CX : CXT} {x : Str} {C fI : Addr} {k : Nat} {fd : FuncData} {ps : List Str} {sp : Sp} {ds : List Value} {dvs : List V} (T : OexC X.K C) (iC : PySem.W.findIn X.K (.ref C) "__init__" = some (some (.ref fI)))
    (tI : PySem.W.typeIn X.K (.ref fI) = some (.type "function")) (F1 : FnOk X.prog X.w X.K X.mg X.base CX k fI fd ps sp) (hr : Room (k + 1) X.A) (hb : Binds X.K fd ps ds) (hd : Vals dvs ds) (hx : Passes CX X (fun _ _ _ => False))
    (hg : Gl X x) (hm : X.mg x = some (.ref C)) (ha : PA X (e :: es) ta) (hdb : (x == ("__debug__" : Str)) = false := by decide)
    (he : starEach (e :: es) X.env = (false, eval e X.env) :: starEach es X.env := by rfl) (hpl : (backTo pos (starEach es X.env)).any (·.1) = false := by rfl) :
    L2N.PMk X (.Call (.Name x p) (e :: es) [] pos) (tMkO C sp dvs ta) := by
  intro pins s σ H Q I h
  obtain ⟨_, _, _, _, bm, _, _, _, _, _, _, _, _, _, _, hC, hbm⟩ := T.cls
  refine wpAny_Call_Name_kw (ld_glob I hg hm ?_ hdb)
  refine PySem.W.callWith_K (h₀ := X.base) I.ok.mod.kin T.kC (thn (ha.run pos pins s σ H _ I h) fun us s1 ⟨vs, H1, J, r1, hz, q1⟩ => ⟨J.kIn, ?_⟩) he hpl
  show wpAny _ _ (call (.ref C) us) _ _ _
  obtain ⟨hp, g, dr, tk, os⟩ := s1
  obtain ⟨n, hn⟩ : ∃ n, hp.objs.size = n := ⟨_, rfl⟩
  have hlt : hp.objs.size ≤ n + 1 := by rw [hn]; exact Nat.le_succ _
  have fresh : H1 (n + 1) = none := J.hok.fresh hlt
  have hq := q1 (n + 1) fresh
  have kk : ∀ b o, hp.get? b = some o → ((hp.push (PySem.W.kdv_tup us)).push (PySem.HandSPX.excO C n)).get? b = some o := fun b o z => Heap.get?_push_of_some _ (Heap.get?_push_of_some _ z)
  have there : ((hp.push (PySem.W.kdv_tup us)).push (PySem.HandSPX.excO C n)).get? (n + 1) = some (PySem.HandSPX.excO C n) := by subst hn; heap_get
  have J2 : Inv X pins σ (upd H1 (n + 1) (exo (n + 1) C none)) ⟨(hp.push (PySem.W.kdv_tup us)).push (PySem.HandSPX.excO C n), g, dr, tk, os⟩ :=
    J.laid (t' := tk) (a := n + 1) (o := exo (n + 1) C none) (h' := (hp.push (PySem.W.kdv_tup us)).push (PySem.HandSPX.excO C n)) kk hlt (exo_ok there)
  have r2 : Vals (V.ref (n + 1) :: (vs ++ dvs)) (Value.ref (n + 1) :: (us ++ ds)) := .cons rfl (r1.append hd)
  have hl : (Value.ref (n + 1) :: us ++ ds).length = ps.length := by
    have z := r2.length
    rw [F1.len _ _ _ _ hq] at z
    exact z.symm
  have hus : us.length ≤ sizeLine := by rw [← Paired.length r1, sizeLine_eq]; omega
  subst hn
  refine wpAny_call (PySem.HandSPX.call_own F.excBase_ValueError (fun Y => PySem.HandSPX.refsVE_contains Y bm hbm) (J.kIn _ _ hC) (PySem.W.looks_findIn J.kIn iC) (fun self => PySem.W.bind_fn J.kIn self tI) hus ?_)
  refine (codeAny_mono (F1.run _ X.stack _ _ ⟨Value.ref (hp.objs.size + 1) :: us, []⟩ (Value.ref (hp.objs.size + 1) :: (us ++ ds)) _ _ (fun _ _ _ => False) (hr.make C us []) (J2.env0.make C us []) (hb _ _ J2.kIn hl) r2 hq) fun r s' hq' => ?_)
  cases r with
  | error er => exact hx pins σ _ _ er s' J2 hq'
  | ok fl =>
    cases fl with
    | next => exact hq'.elim
    | brk => exact hq'.elim
    | cont => exact hq'.elim
    | ret u =>
      obtain ⟨v, H2, os2, bare2, un2, hok2, rv, ev, d, fs, ea, ed, hd1, q2⟩ := hq'
      subst ev
      obtain ⟨h2, g2, d2, t2, os'⟩ := s'
      obtain ⟨t0, G, JG, kG, ge, hoe, na⟩ := mk_end0 (d2 := d2) (t2 := t2) J hlt kk un2 hok2 os2 bare2 ea ed hd1
      exact ⟨rv, _, _, _, ⟨G, g2, d2, t2, os'⟩, _, .ref C, some d, rfl, JG, kG, ge, hoe, ⟨rfl, rfl, fun vs z => by cases z; rfl⟩, rfl, rfl, na, rfl, bare2, raises_own T.exC T.tyC, q2⟩
end
end Gm
/-! A list comprehension whose element may raise. -/
namespace Gm
open PySem PySem.Spec PyProof.Rows L2

/-- the block's context, with a wish about exceptions -/
abbrev blkX (X : Cx) (s : Shared) (H : Hp) (scope : Scope) (cenv : Env) (fp : List Addr) (xe : Value → Shared → Prop) : Cx := { X.blk s H scope cenv fp with xe := xe }

theorem ok_xe {X : Cx} {xe : Value → Shared → Prop} (ok : X.Ok) : Cx.Ok { X with xe := xe } :=
  ⟨ok.mod, ok.kind, ok.glob, ok.blt, ok.above, ok.inj, ok.has, ok.cab, ok.hd, ok.frames, ok.stk, ok.exf, ok.bs, ok.bsz, ok.noex, ok.exfs, ok.funs, ok.frf⟩
theorem inv_xe {X : Cx} {xe : Value → Shared → Prop} {pins : List (Addr × Obj)} {σ : L2.St} {H : Hp} {s : Shared} (I : Inv X pins σ H s) : Inv { X with xe := xe } pins σ H s :=
  ⟨ok_xe I.ok, I.os, I.bare, I.base, I.loc, I.cell, I.free, I.freeC, I.pin, I.hok, I.len⟩

section
variable {X : Cx} {pins pins' : List (Addr × Obj)} {σ σ' : L2.St} {H3 H' : Hp} {s3 sI : Shared} {scope : Scope} {ce : Env} {fp : List Addr} {xe : Value → Shared → Prop}
/-- the def's own state again, without the block's names -/
theorem inv_back (I3 : Inv X pins σ H3 s3) (f3 : ∀ b ∈ fp, FpOk X pins H3 b ∧ b < s3.heap.objs.size) (Ib : Inv (blkX X s3 H3 scope ce fp xe) pins' σ' H' sI) (cL : ce.locals = s3.heap.objs.size) :
    Inv X pins σ H' { sI with heap := PySem.W.hideAll sI.heap [ce.locals] } := by
  have hne : ∀ b o, s3.heap.get? b = some o → b ∉ [ce.locals] := fun b o e hm => by
    rw [List.mem_singleton.mp hm, cL] at e
    exact absurd (Heap.lt_size e) (Nat.lt_irrefl _)
  have B := Ib.base
  refine I3.call' (ch := fp) Ib.os ⟨fun b o e n hb hx => PySem.W.hideAll_get _ (B.keep b o e n hb hx) (hne b o e), fun b o e n hb hx => ?_, B.free, fun b o e hx => ?_, B.tups, B.frzs, B.tbls⟩ ?_ Ib.bare
    fun b hb => ⟨(f3 b hb).1.2.2.2.1, (f3 b hb).1.2.1, (f3 b hb).1.2.2.2.2.1, (f3 b hb).1.2.2.2.2.2⟩
  · obtain ⟨sl, q⟩ := B.slot b o e n hb hx
    exact ⟨sl, PySem.W.hideAll_get _ q (hne b o e)⟩
  · obtain ⟨o', q⟩ := B.there b o e hx
    exact ⟨o', PySem.W.hideAll_get _ q (hne b o e)⟩
  · have z : H' ce.locals = none := Ib.free
    exact fun b o q => (Ib.hok b o q).stay (fun c u hc r => PySem.W.hideAll_get _ r fun hm => by
      rw [List.mem_singleton.mp hm] at hc
      rcases hc with hc | hc
      · rw [hc, q] at z; cases z
      · rw [hc] at z; cases z) (fun _ r => r) fun _ _ r => r

/-- an exception out of a call in the block passes on to the def -/
theorem passes_blk {W : WX} {E : XK} {K : Value → Shared → Prop} (hst : X.stack = X.env :: X.outer) (hfr : X.env.frame = some X.env.locals) (tk : L2.Takes X W) (hW : ∀ cls d σ H, E cls d H → W cls d σ H)
    (I3 : Inv X pins σ H3 s3) (f3 : ∀ b ∈ fp, FpOk X pins H3 b ∧ b < s3.heap.objs.size) (cL : ce.locals = s3.heap.objs.size) (cF : ce.frame = X.env.frame)
    (hK : ∀ e s', CompFails (model X.prog X.w) X.A X.xe ce e s' → K e s') :
    ∀ (pins' : List (Addr × Obj)) (σ' : L2.St) (H : Hp) (s : Shared) (e : Value) (s' : Shared), Inv (blkX X s3 H3 scope ce fp xe) pins' σ' H s → L2.CX X.prog X.w X.stack H s E e s' → notedBy (model X.prog X.w) X.A ce K e s' := by
  rintro pins' σ' H s e s' Ib ⟨a, B, H2, cls, d, rfl, fl, hok, ub, na, os, ag, hE⟩
  obtain ⟨G, g1, g2⟩ := restrict s'.heap fun b => (B.get? b).isSome || decide (b ∈ frs X.stack)
  have st : B.StaysIn s'.heap := fl.1
  have gB : ∀ b o, B.get? b = some o → G.get? b = some o := fun b o e => by
    rw [g1 b (by simp [e])]
    exact st b o e
  have gF : ∀ b, b ∈ frs X.stack → G.get? b = s'.heap.get? b := fun b hb => g1 b (by simp [hb])
  have og : ∀ b o, G.get? b = some o → s'.heap.get? b = some o ∧ ((B.get? b).isSome = true ∨ b ∈ frs X.stack) := fun b o e => by
    cases q : ((B.get? b).isSome || decide (b ∈ frs X.stack)) with
    | false => rw [g2 b q] at e; cases e
    | true =>
      rw [g1 b q] at e
      exact ⟨e, by simpa [Bool.or_eq_true] using q⟩
  have IG : Inv (blkX X s3 H3 scope ce fp xe) pins' σ' H2 { s with heap := G, gens := s'.gens, drawn := s'.drawn, toks := s'.toks } := by
    refine Ib.call (ch := []) ⟨fun b o e n hb _ => gB b o (ub.keep b o e n hb), fun b o e n hb _ => ?_, fun b o e n _ => ub.free b o e n, fun b o e _ => ?_, ub.tups, ub.frzs, ub.tbls⟩ (hok.kept gB) ag (fun _ z => nomatch z)
    · obtain ⟨sl, q⟩ := ub.slot b o e hb
      exact ⟨sl, by rw [gF b hb]; exact q⟩
    · by_cases hb : b ∈ frs X.stack
      · obtain ⟨sl, q⟩ := ub.slot b o e hb
        exact ⟨_, by rw [gF b hb]; exact q⟩
      · obtain ⟨o', q⟩ := ub.there b o e hb
        exact ⟨o', gB b o' q⟩
  have IX := inv_back I3 f3 IG cL
  have hfr' : X.A.frames = some (X.env :: X.outer) := by rw [I3.ok.frames, hst]
  -- the ground without the block's names
  have fl' : HandSPX.FlyingZ (PySem.W.hideAll B [ce.locals]) X.stack a (Zc cls d) s'.heap := by
    obtain ⟨f1, f2, f5, oe, vs, T, oT, ts, he, hz, hd, h1, hnT, r⟩ := fl
    have no : ∀ b, B.get? b = none → (PySem.W.hideAll B [ce.locals]).get? b = none := fun b hb => by
      cases q : (PySem.W.hideAll B [ce.locals]).get? b with
      | none => rfl
      | some o =>
        have z := PySem.W.of_hideAll _ q
        rw [hb] at z; cases z
    exact ⟨fun b o e => f1 b o (PySem.W.of_hideAll _ e), no _ f2, funFrames_none f5 fun L hL => no _ (f5.mem hL).1, oe, vs, T, oT, ts, he, hz, hd, h1, no _ hnT, r⟩
  have hbC : (PySem.W.hideAll B [ce.locals]).get? ce.locals = none := PySem.W.hideAll_none _ (List.mem_singleton.mpr rfl)
  obtain ⟨m, hnG, _⟩ := IG.loc
  have hn0 : s'.heap.Ns ce.locals m := Heap.Ns.keeps hnG fun b o e => (og b o e).1
  show wpAny _ _ (noteFrame (.ref a) ce) _ _ s'
  rw [noteFrame_env _ cF]
  rw [hst] at fl'
  refine HandSPX.looks_onZ Zc.steady hfr' hfr fl' fun h1 hh up => hK _ _ ?_
  refine ⟨m, hn0.upToSlots up, fun h2 m2 hn2 sb => ?_⟩
  have hn1 : h1.Ns ce.locals m := hn0.upToSlots up
  obtain ⟨b1, b0, f1, t1⟩ := hh
  have b2 : (PySem.W.hideAll B [ce.locals]).StaysIn h2 := fun b o hb => (sb.2 b fun q => by rw [q, hbC] at hb; cases hb).trans (b1 b o hb)
  have f2 : h2.FunFrames (PySem.W.hideAll B [ce.locals]) (X.env :: X.outer) := Heap.FunFrames.sameBut sb hn2 f1
  obtain ⟨oe, vs, T, oT, ts, he, hz, hd, hv1, hnT, hTe, hT, hdT, h3⟩ := t1
  obtain ⟨oL, es, ep, hoL, hdL, _⟩ := hn1
  have neE : a ≠ ce.locals := fun q => by rw [q, hoL] at he; cases he; rw [hd] at hdL; cases hdL
  have neT : T ≠ ce.locals := fun q => by rw [q, hoL] at hT; cases hT; rw [hdT] at hdL; cases hdL
  have t2 : HandSPX.TracedZ h2 (PySem.W.hideAll B [ce.locals]) a (Zc cls d) (rawInt X.env.locals) := ⟨oe, vs, T, oT, ts, (sb.2 a neE).trans he, hz, hd, hv1, hnT, hTe, (sb.2 T neT).trans hT, hdT, h3⟩
  unfold PySem.passOn
  refine wpAny_bind (wpAny_field (s := { s' with heap := h2 }) ((sb.2 a neE).trans he) hd hv1 ?_)
  rw [if_neg (show ¬ ((Value.ref T == Value.none) = true) from by simp)]
  rw [cF, hfr]
  refine wpAny_bind (HandSPX.setFlight_onZ (s := { s' with heap := h2 }) (l := X.env :: X.outer) ⟨b2, b0, f2, t2⟩ fun h3' hh3 up3 => ?_)
  refine wpAny_throw ?_
  refine tk (.ref a) _ ⟨a, PySem.W.hideAll B [ce.locals], _, pins, σ, H2, cls, d, rfl, IX, fun b o e hb => ?_, fun b o e hnf => ?_, .inr (.inr (by rw [hst]; exact hh3)), na, os, ag, hW _ _ _ _ hE⟩
  · have e' := PySem.W.of_hideAll _ e
    have bC : b ∉ [ce.locals] := fun hm => by
      rw [PySem.W.hideAll_none _ hm] at e; cases e
    obtain ⟨e1, hh⟩ := og b o e'
    rcases hh with hh | hh
    · obtain ⟨o', q⟩ := Option.isSome_iff_exists.mp hh
      have z := st b o' q
      rw [e1] at z; cases z
      exact PySem.W.hideAll_get _ q bC
    · exact absurd hh hb
  · have e' := PySem.W.of_hideAll _ e
    have bC : b ≠ ce.locals := fun hm => by
      rw [hm, PySem.W.hideAll_none _ (List.mem_singleton.mpr rfl)] at e; cases e
    obtain ⟨e1, _⟩ := og b o e'
    obtain ⟨sl, e2⟩ := up b o e1 hnf
    obtain ⟨sl3, e3⟩ := up3 b _ ((sb.2 b bC).trans e2) hnf
    exact ⟨sl3, e3⟩
end

section
variable {X : Cx}
/-- what the parts of a comprehension's block are to be, where its element's calls may raise E -/
abbrev BlkP (X : Cx) (scope : Scope) (E : XK) (P : Cx → Prop) : Prop := ∀ (s : Shared) (H : Hp) (C : Addr) (cl : List (Str × Addr)) (fp : List Addr) (xe : Value → Shared → Prop),
  (∀ (pins : List (Addr × Obj)) (σ : L2.St) (H' : Hp) (s' : Shared) (e : Value) (s'' : Shared), Inv (blkX X s H scope (compEnvC scope cl C X.env) fp xe) pins σ H' s' → L2.CX X.prog X.w X.stack H' s' E e s'' → xe e s'') →
  P (blkX X s H scope (compEnvC scope cl C X.env) fp xe)

theorem lc_coreX {pins : List (Addr × Obj)} {s : Shared} {σ : L2.St} {H : Hp} {Q : VK} {elt tg iter : Expr} {ifs : List Expr} {scope : Scope} {own : List (Str × Nat)} {pos pos' : Pos} {wi : TI} {g : TG} {tt : TT} {te : TE} {use : Option (Value → Sem Unit)} {Qf : Value → Shared → Prop}
    {W0 : WX} {E : XK} (hst : X.stack = X.env :: X.outer) (hfr : X.env.frame = some X.env.locals) (tk : L2.Takes X W0) (hW : ∀ cls d σ H, E cls d H → W0 cls d σ H)
    (hc : X.calm = true) (hN : X.N.Nodup) (I : Inv X pins σ H s) (hi : PI X tg iter wi) (ok : BlkOk X.N X.env.scope scope own)
    (hg : BlkP X scope E fun X' => PG X' tg g) (ht : BlkP X scope E fun X' => PTs X' ifs tt) (he : BlkP X scope E fun X' => PE X' elt te) (hs : ∀ x, foldedSetIterable iter X.env x = pure x)
    (h : tLc wi g tt te (own.map (·.2)) σ H Q)
    (hRR : ∀ D C s' m H', Inv X pins σ H' s' → Q (.ref D) H' → s'.heap.Ns C m → FpOk X pins H' C → compPost (model X.prog X.w) X.A X.xe use Qf (.ref D) C (.ok .next) s') :
    wpAny (model X.prog X.w) X.A (comprehension (.ListComp elt [⟨tg, iter, ifs, 0⟩] scope pos) scope X.env pos' (newList []) false (eval iter X.env) use) Qf X.xe s := by
  have hfree : ∀ y ∈ scope.names, y.2 = .free → ∃ c, X.env.cells.lookup y.1 = some c := fun y hy e => by
    rcases ok.free y hy e with k | k
    · exact I.ok.has _ (.inl k)
    · exact I.ok.has _ (.inr k)
  refine comprehension_at (use := use) rfl hs (closure_ok hfree) ok.kind (fun y hy e => by rw [ok.uniq y hy, e])
    (thn (hi.run pins s σ H _ I h) fun xv s1 hx => thn hx fun itv s2 h2 => ?_)
  obtain ⟨it, fp, tn, J, H2, e, I2, T, st2, f2, q⟩ := h2
  subst e
  refine wpAny_newObj_type (newEnv_comp ?_) (by show 0 ≤ sizeLine; decide)
  generalize hD : s2.heap.objs.size = D
  have hDn : H2 D = none := I2.hok.fresh (Nat.le_of_eq hD)
  obtain ⟨W, ⟨m0, w0⟩, turn⟩ := q D hDn
  generalize hs3 : ({ s2 with heap := s2.heap.push { cls := .type "list", data := .seq ([] : List Value).toArray } } : Shared) = s3
  have I3 : Inv X pins σ (upd H2 D (.lst [])) s3 := by
    rw [← hs3]
    refine I2.laid (t' := s2.toks) (fun b o e => Heap.get?_push_of_some _ e) (Nat.le_of_eq hD) ⟨Nat.zero_le _, [], 0, .nil, ?_⟩
    rw [← hD]
    exact Heap.get?_push_size _ rfl
  have h3 : s3.heap = s2.heap.push { cls := .type "list", data := .seq ([] : List Value).toArray } := by rw [← hs3]
  have sz : ∀ b ∈ fp, b < s2.heap.objs.size := fun b hb => by
    obtain ⟨o, e, _⟩ := T.obj _ _ st2 b hb
    exact Heap.lt_size e
  have f3 : ∀ b ∈ fp, FpOk X pins (upd H2 D (.lst [])) b ∧ b < s3.heap.objs.size := fun b hb => by
    have hlt := sz b hb
    refine ⟨⟨?_, (f2 b hb).2⟩, by rw [h3, Heap.size_push]; exact Nat.lt_succ_of_lt hlt⟩
    rw [upd_ne (by rw [← hD]; exact Nat.ne_of_lt hlt)]
    exact (f2 b hb).1
  have st3 : tn 0 s3.heap := T.keep _ _ _ st2 fun b _ o e => by rw [h3]; exact Heap.get?_push_of_some _ e
  have I4 := block_start I3 ok hN f3
  have pg := hg s3 (upd H2 D (.lst [])) s3.heap.objs.size (cellsFrom (s3.heap.objs.size + 1) scope.names (cloFrom X.env.cells scope.names [])) fp
  have pt := ht s3 (upd H2 D (.lst [])) s3.heap.objs.size (cellsFrom (s3.heap.objs.size + 1) scope.names (cloFrom X.env.cells scope.names [])) fp
  have pe := he s3 (upd H2 D (.lst [])) s3.heap.objs.size (cellsFrom (s3.heap.objs.size + 1) scope.names (cloFrom X.env.cells scope.names [])) fp
  show codeAny _ _ (.compStart (.ListComp elt [⟨tg, iter, ifs, 0⟩] scope pos) 0 (.ref it) (.ref D) (compEnvC scope (cellsFrom (s3.heap.objs.size + 1) scope.names (cloFrom X.env.cells scope.names [])) s3.heap.objs.size X.env)) (compEnds (model X.prog X.w) X.A X.xe use Qf (.ref D) (compEnvC scope (cellsFrom (s3.heap.objs.size + 1) scope.names (cloFrom X.env.cells scope.names [])) s3.heap.objs.size X.env)) { s3 with heap := pushCells (s3.heap.push { cls := .type "dict", data := .dict #[] }) scope.names }
  have nfp : ∀ b ∈ fp, (upd H2 D (.lst [])) b = none := fun b hb => (f3 b hb).1.1
  generalize hce : compEnvC scope (cellsFrom (s3.heap.objs.size + 1) scope.names (cloFrom X.env.cells scope.names [])) s3.heap.objs.size X.env = ce at I4 pg pt pe ⊢
  have cL : ce.locals = s3.heap.objs.size := by subst hce; rfl
  have cF : ce.frame = X.env.frame := by subst hce; rfl
  generalize hH3 : upd H2 D (.lst []) = H3 at I3 I4 pg pt pe w0 nfp f3
  generalize hs4 : ({ s3 with heap := pushCells (s3.heap.push { cls := .type "dict", data := .dict #[] }) scope.names } : Shared) = s4 at I4 ⊢
  have st4 : tn 0 s4.heap := T.keep _ _ _ st3 fun b _ o e => by rw [← hs4]; exact pushCells_keeps _ _ _ _ (Heap.get?_push_of_some _ e)
  -- the block's end
  generalize hR : (fun (r : Result) (s' : Shared) => (r = .ok .next ∧ compPost (model X.prog X.w) X.A X.xe use Qf (.ref D) s3.heap.objs.size (.ok .next) s') ∨ ∃ x, r = .error x ∧ CompFails (model X.prog X.w) X.A X.xe ce x s') = R
  have hRi : ∀ r s', R r s' → compEnds (model X.prog X.w) X.A X.xe use Qf (.ref D) ce r s' := fun r s' hr => by
    subst hR
    rcases hr with ⟨rfl, hr⟩ | ⟨x, rfl, hr⟩
    · rw [← cL] at hr
      cases use <;> exact hr
    · cases use <;> exact hr
  refine codeAny_mono ?_ hRi
  generalize hxe : notedBy (model X.prog X.w) X.A ce (fun e s' => R (.error e) s') = xe
  have pass : ∀ (pins' : List (Addr × Obj)) (σ' : L2.St) (H : Hp) (s : Shared) (e : Value) (s' : Shared), Inv (blkX X s3 H3 scope ce fp xe) pins' σ' H s → L2.CX X.prog X.w X.stack H s E e s' → xe e s' := by
    have z := passes_blk (scope := scope) (xe := xe) hst hfr tk hW I3 f3 cL cF (K := fun e s' => R (.error e) s') fun e s' hh => by rw [← hR]; exact .inr ⟨e, rfl, hh⟩
    rw [hxe] at z
    exact z
  have I4 := inv_xe (xe := xe) I4
  have pg := pg xe pass
  have pt := pt xe pass
  have pe := pe xe pass
  have stat : ∀ {σ' : L2.St} {H' : Hp} {s' : Shared}, Inv (blkX X s3 H3 scope ce fp xe) [] σ' H' s' → (∀ b ∈ fp, H' b = none) → ∀ b ∈ fp, FpOk (blkX X s3 H3 scope ce fp xe) [] H' b := fun {σ' H' s'} I' hn b hb =>
    ⟨hn b hb, (I'.ok.exf b hb).1, I'.ok.exfs b hb, .inl hb, fun x c e => (I'.ok.exf b hb).2 x c e, fun p hp => absurd (show p ∈ ([] : List (Addr × Obj)) ++ [] from hp) (by simp)⟩
  have loop : codeAny (model X.prog X.w) X.A (.compLoop (.ListComp elt [⟨tg, iter, ifs, 0⟩] scope pos) 0 (.ref it) (.ref D) ce) R s4 := by
    refine compLoop_any (fun n s' => ∃ i H', Inv (blkX X s3 H3 scope ce fp xe) [] (wipe σ (own.map (·.2))) H' s' ∧ tn i s'.heap ∧ (∀ b ∈ fp, H' b = none) ∧ W i n H') ?_ m0 ⟨0, H3, I4, st4, nfp, w0⟩
    rintro n s5 ⟨i, H5, I5, st5, n5, w5⟩
    rw [hxe]
    rcases turn i n H5 w5 with ⟨stop, qq⟩ | ⟨go, Nx, hNx, step⟩
    · have td := T.done (blkX X s3 H3 scope ce fp xe) rfl rfl rfl hc i [] s5 _ H5 (fun _ _ => False) I5 (stat I5 n5) st5 stop
      refine thnF td fun r s6 ⟨hr, I6⟩ => ?_
      subst hr
      have I7 : Inv X pins σ H5 s6 := I3.call' (ch := fp) I6.os I6.base I6.hok I6.bare fun b hb => ⟨(f3 b hb).1.2.2.2.1, (f3 b hb).1.2.1, (f3 b hb).1.2.2.2.2.1, (f3 b hb).1.2.2.2.2.2⟩
      have nC : H5 s3.heap.objs.size = none := by
        have z : H5 ce.locals = none := I6.free
        rw [cL] at z
        exact z
      obtain ⟨m, hn, _⟩ := I6.loc
      have hn : s6.heap.Ns ce.locals m := hn
      rw [cL] at hn
      show R (.ok .next) s6
      rw [← hR]
      exact .inl ⟨rfl, hRR D s3.heap.objs.size s6 m H5 I7 qq hn (I3.fpOk (Nat.le_refl _) nC)⟩
    · have ti := T.item (blkX X s3 H3 scope ce fp xe) rfl rfl rfl hc i [] s5 _ H5 (fun _ _ => False) I5 (stat I5 n5) st5 go
      refine thnF ti fun r s6 ⟨u, hr, h6⟩ => ?_
      subst hr
      refine thnF h6 fun _ s7 ⟨x, H7, I7, r7, y7, st7, n7⟩ => ?_
      have I7' := I7.pinned (stat I7 n7) (T.obj _ _ st7)
      refine thn (pg.run _ s7 _ H7 x u _ I7' r7 (step x H7 y7)) fun _ s8 ⟨σ8, H8, I8, hw8, q8⟩ => ?_
      refine thn (pt.run _ s8 σ8 H8 _ I8 q8) fun b s9 ⟨H9, I9, q9⟩ => ?_
      have fin : ∀ {s' : Shared} {H' : Hp}, Inv (blkX X s3 H3 scope ce fp xe) ([] ++ pinsAt fp s7.heap) σ8 H' s' → Nx H' → ∃ m, m < n ∧ ∃ i H', Inv (blkX X s3 H3 scope ce fp xe) [] (wipe σ (own.map (·.2))) H' s' ∧ tn i s'.heap ∧ (∀ b ∈ fp, H' b = none) ∧ W i m H' := fun {s' H'} I' nx => by
        obtain ⟨m', hm, w'⟩ := hNx H' nx
        have pin' : ∀ b ∈ fp, ∀ o, s7.heap.get? b = some o → s'.heap.get? b = some o ∧ H' b = none := fun b hb o e =>
          let z := I'.pin (b, o) (List.mem_append_right _ (List.mem_append_right _ (mem_pinsAt hb e)))
          ⟨z.1, z.2.1⟩
        have hl : (wipe σ (own.map (·.2))).length = σ8.length := by rw [← hw8, wipe_length]
        refine ⟨m', hm, i + 1, H', (I'.unpinned (pins := [])).weak hl (fun j v e => ?_), T.keep _ _ _ st7 fun b hb o e => (pin' b hb o e).1, fun b hb => ?_, w'⟩
        · rw [← hw8] at e
          exact (wipe_some e).1
        · obtain ⟨o, e, _⟩ := T.obj _ _ st7 b hb
          exact (pin' b hb o e).2
      cases b with
      | false =>
        simp only [Bool.false_eq_true, if_false] at q9 ⊢
        exact fin I9 q9
      | true =>
        simp only [if_true] at q9 ⊢
        refine thn (pe.run _ s9 σ8 H9 _ I9 q9) fun z s10 ⟨yv, H10, I10, r10, acc, hD10, hz10, nx⟩ => ?_
        exact app_ok (X := blkX X s3 H3 scope ce fp xe) I10 hD10 hz10 r10 fun s11 I11 => fin I11 nx
  exact codeAny_compStart_list loop (T.self X.A 0 _ _ _ st4 loop)

/-- as a value, its element's calls may raise -/
theorem pe_lcX {elt tg iter : Expr} {ifs : List Expr} {scope : Scope} {own : List (Str × Nat)} {pos : Pos} {wi : TI} {g : TG} {tt : TT} {te : TE} {W0 : WX} {E : XK}
    (hst : X.stack = X.env :: X.outer) (hfr : X.env.frame = some X.env.locals) (tk : L2.Takes X W0) (hW : ∀ cls d σ H, E cls d H → W0 cls d σ H)
    (hc : X.calm = true) (hN : X.N.Nodup) (hi : PI X tg iter wi) (ok : BlkOk X.N X.env.scope scope own)
    (hg : BlkP X scope E fun X' => PG X' tg g) (ht : BlkP X scope E fun X' => PTs X' ifs tt) (he : BlkP X scope E fun X' => PE X' elt te) (hs : ∀ x, foldedSetIterable iter X.env x = pure x := by intro _; rfl) :
    PE X (.ListComp elt [⟨tg, iter, ifs, 0⟩] scope pos) (tLc wi g tt te (own.map (·.2))) := by
  refine ⟨fun pins s σ H Q I h => ?_⟩
  rw [eval_ListComp]
  refine lc_coreX hst hfr tk hW hc hN I hi ok hg ht he hs h fun D C s' m H' I' q hn f => ⟨m, hn, fun h'' sb => ?_⟩
  obtain ⟨f0, f1, f2, f3, f4, f5⟩ := f
  exact ⟨.ref D, H', I'.turned (t' := s'.toks) (fun b o hb e => (sb.2 b hb).trans e) f0 f1 f3 f4 f5, rfl, q⟩
end
end Gm
/-! Loops and comprehensions while an exception is handled. -/
namespace GmH
open PySem PySem.Spec PyProof.Rows L2 HotX L2H Gm
/-! ### the ends of iterators -/
section
variable {prog : Program} {w : World} {A : Around} {E : Value → Shared → Prop} {s : Shared}
theorem hot_keep {x1 : Addr} {h h' : Heap} (hot : HotAt A x1 h) (k : ∀ o, h.get? x1 = some o → h'.get? x1 = some o) : HotAt A x1 h' := by
  obtain ⟨hh, o, vs, e, d, c⟩ := hot
  exact ⟨hh, o, vs, k o e, d, c⟩
theorem hot_ne {x1 it : Addr} {h : Heap} {o : Obj} {vs : Array Value} (hot : HotAt A x1 h) (e : h.get? it = some o) (d : o.data = .fields vs) (hv : vs.size ≤ 2) : x1 ≠ it := by
  obtain ⟨_, o1, vs1, e1, d1, c1⟩ := hot
  intro z
  rw [z, e] at e1
  cases e1
  rw [d] at d1
  cases d1
  have := (Array.getElem?_eq_some_iff.mp c1).1
  omega
/-- a new StopIteration -/
theorem stop_hot {α : Type} {x1 : Addr} {Q : α → Shared → Prop} (hot : HotAt A x1 s.heap)
    (hE : ∀ h' e, (∀ b o, s.heap.get? b = some o → h'.get? b = some o) → (∃ o, h'.get? e = some o ∧ o.cls = .type "StopIteration") → E (.ref e) { s with heap := h' }) :
    wpAny (model prog w) A (newExc (.type "StopIteration") [] >>= fun e => (raiseNew e : Sem α)) Q E s := by
  refine wpAny_bind ?_
  simp only [newExc, newTuple]
  refine wpAny_bind (wpAny_newObj_type ?_ (by size_fits))
  refine wpAny_bind (m := firstArgMember _ _) (wpAny_of_eq (a := Value.none) (by first | rfl | (simp only [firstArgMember]; rfl)) ?_)
  refine wpAny_newObj_type ?_ (by size_fits)
  have hot2 := hot_keep (h' := (s.heap.push { cls := .type "tuple", data := .seq #[] }).push { cls := .type "StopIteration", data := .fields (#[.ref s.heap.objs.size, .none, .none, .none, .bool false, .none] ++ #[Value.none]) }) hot fun o e => Heap.get?_push_of_some _ (Heap.get?_push_of_some _ e)
  obtain ⟨hh, o1, vs1, h1, d1, c1⟩ := hot
  refine raiseNew_hot ⟨hh, o1, vs1, Heap.get?_push_of_some _ (Heap.get?_push_of_some _ h1), d1, c1⟩ (Nat.ne_of_lt (Heap.lt_size (Heap.get?_push_of_some _ h1))) (Heap.get?_push_size _ rfl) rfl (by first | (simp; done) | (simp; omega) | (simp only [Array.size_append]; simp; omega)) ?_
  refine hE _ _ (fun b o e => ?_) ⟨_, Heap.get?_update_self _ (Heap.get?_push_size _ rfl) rfl, rfl⟩
  rw [Heap.get?_update_other _ _ (Nat.ne_of_gt (Heap.lt_size (Heap.get?_push_of_some _ e)))]
  exact Heap.get?_push_of_some _ (Heap.get?_push_of_some _ e)
theorem nextOf_list_end_hot {it l x1 : Addr} {i : Nat} {items : Array Value} {Q : Value → Shared → Prop} (hot : HotAt A x1 s.heap) (hit : s.heap.IsListIter it l i) (hl : s.heap.IsList l items) (hx : items[i]? = none)
    (hE : ∀ h' e, Heap.ExtBut it s.heap h' → (∃ o, h'.get? e = some o ∧ o.cls = .type "StopIteration") → E (.ref e) { s with heap := h' }) : wpAny (model prog w) A (Builtin.SmallTypes.nextOf (.ref it)) Q E s := by
  obtain ⟨oi, gi, ci, di⟩ := id hit
  obtain ⟨ol, gl, _, nl, dl⟩ := hl
  have ne := hot_ne hot gi di (by simp)
  unfold Builtin.SmallTypes.nextOf
  refine wpAny_bind (wpAny_callSpecial?_slot (name := Str.ofString "__next__") hit.typeIs slot_listiter_next
    (wpAny_call_entry slot_listiter_next hit.typeIs entry_listiter_next ?_ (args_listiter_next _)))
  show wpAny _ _ (field (.ref it) 0 >>= _) _ _ s
  refine wpAny_bind (wpAny_field gi di (x := .ref l) rfl ?_)
  show wpAny _ _ (if (Value.ref l == Value.none) = true then _ else _) _ _ s
  rw [if_neg (show ¬ ((Value.ref l == Value.none) = true) from Bool.false_ne_true)]
  show wpAny _ _ (field (.ref it) 1 >>= _) _ _ s
  refine wpAny_bind (wpAny_field gi di (x := .int i 0) rfl ?_)
  show wpAny _ _ (seqItems? (.ref l) >>= _) _ _ s
  refine wpAny_bind (wpAny_seqItems gl dl ?_)
  simp only [Int.toNat_natCast, hx]
  refine wpAny_bind (wpAny_rule (wpAny_bind (wpAny_setField gi di (by simp) ?_)))
  refine stop_hot (x1 := x1) (hot_keep hot fun o e => ?_) fun h' e k c => hE h' e (fun b o hb e => k b o ?_) c
  · exact (Heap.get?_update_other _ _ (Ne.symm ne)).trans e
  · exact (Heap.get?_update_other _ _ (Ne.symm hb)).trans e
theorem nextOf_tuple_end_hot {it l x1 : Addr} {i : Nat} {items : Array Value} {Q : Value → Shared → Prop} (hot : HotAt A x1 s.heap) (hit : s.heap.IsTupleIter it l i) (hl : s.heap.IsTuple l items) (hx : items[i]? = none)
    (hE : ∀ h' e, Heap.ExtBut it s.heap h' → (∃ o, h'.get? e = some o ∧ o.cls = .type "StopIteration") → E (.ref e) { s with heap := h' }) : wpAny (model prog w) A (Builtin.SmallTypes.nextOf (.ref it)) Q E s := by
  obtain ⟨oi, gi, ci, di⟩ := id hit
  obtain ⟨ol, gl, _, nl, dl⟩ := hl
  have ne := hot_ne hot gi di (by simp)
  unfold Builtin.SmallTypes.nextOf
  refine wpAny_bind (wpAny_callSpecial?_slot (name := Str.ofString "__next__") hit.typeIs F.slot_tuple_iterator_next
    (wpAny_call_entry F.slot_tuple_iterator_next hit.typeIs F.entry_tuple_iterator_next ?_ (F.args_tuple_iterator_next_1 _)))
  show wpAny _ _ (field (.ref it) 0 >>= _) _ _ s
  refine wpAny_bind (wpAny_field gi di (x := .ref l) rfl ?_)
  show wpAny _ _ (if (Value.ref l == Value.none) = true then _ else _) _ _ s
  rw [if_neg (show ¬ ((Value.ref l == Value.none) = true) from Bool.false_ne_true)]
  show wpAny _ _ (field (.ref it) 1 >>= _) _ _ s
  refine wpAny_bind (wpAny_field gi di (x := .int i 0) rfl ?_)
  show wpAny _ _ (seqItems? (.ref l) >>= _) _ _ s
  refine wpAny_bind (wpAny_seqItems gl dl ?_)
  simp only [Int.toNat_natCast, hx]
  refine wpAny_bind (wpAny_rule (wpAny_bind (wpAny_setField gi di (by simp) ?_)))
  refine stop_hot (x1 := x1) (hot_keep hot fun o e => ?_) fun h' e k c => hE h' e (fun b o hb e => k b o ?_) c
  · exact (Heap.get?_update_other _ _ (Ne.symm ne)).trans e
  · exact (Heap.get?_update_other _ _ (Ne.symm hb)).trans e
theorem enum_end_list_hot {e it l x1 : Addr} {i : Nat} {items : Array Value} {old : Value} {Q : Option Value → Shared → Prop} (hot : HotAt A x1 s.heap) (he : IsEnum s.heap e it i old) (hit : s.heap.IsListIter it l i) (hl : s.heap.IsList l items) (hx : items[i]? = none)
    (hQ : ∀ h', Heap.ExtBut it s.heap h' → Q none { s with heap := h' }) : wpAny (model prog w) A (pyNext (.ref e)) Q E s := by
  have hT : s.TypeIs (.ref e) "enumerate" := ⟨_, he, rfl⟩
  unfold pyNext
  refine wpAny_bind (wpAny_attempt (wpAny_callSpecial?_slot (name := Str.ofString "__next__") hT F.slot_enumerate_next
    (wpAny_call_entry F.slot_enumerate_next hT F.entry_enumerate_next ?_ (F.args_enumerate_next_1 _))))
  show wpAny _ _ (field (.ref e) 2 >>= _) _ _ _
  refine wpAny_bind (wpAny_field he rfl (x := .ref it) rfl ?_)
  refine wpAny_bind (nextOf_list_end_hot (x1 := x1) ⟨hot.1, hot.2⟩ hit hl hx fun h' y k c => ?_)
  obtain ⟨o, ho, hc⟩ := c
  refine wpAny_bind (wpAny_isInstance (T := "StopIteration") (b := true) ⟨o, ho, hc⟩ isSubtype_stop ?_)
  exact wpAny_pure (hQ _ k)
theorem enum_end_tuple_hot {e it l x1 : Addr} {i : Nat} {items : Array Value} {old : Value} {Q : Option Value → Shared → Prop} (hot : HotAt A x1 s.heap) (he : IsEnum s.heap e it i old) (hit : s.heap.IsTupleIter it l i) (hl : s.heap.IsTuple l items) (hx : items[i]? = none)
    (hQ : ∀ h', Heap.ExtBut it s.heap h' → Q none { s with heap := h' }) : wpAny (model prog w) A (pyNext (.ref e)) Q E s := by
  have hT : s.TypeIs (.ref e) "enumerate" := ⟨_, he, rfl⟩
  unfold pyNext
  refine wpAny_bind (wpAny_attempt (wpAny_callSpecial?_slot (name := Str.ofString "__next__") hT F.slot_enumerate_next
    (wpAny_call_entry F.slot_enumerate_next hT F.entry_enumerate_next ?_ (F.args_enumerate_next_1 _))))
  show wpAny _ _ (field (.ref e) 2 >>= _) _ _ _
  refine wpAny_bind (wpAny_field he rfl (x := .ref it) rfl ?_)
  refine wpAny_bind (nextOf_tuple_end_hot (x1 := x1) ⟨hot.1, hot.2⟩ hit hl hx fun h' y k c => ?_)
  obtain ⟨o, ho, hc⟩ := c
  refine wpAny_bind (wpAny_isInstance (T := "StopIteration") (b := true) ⟨o, ho, hc⟩ isSubtype_stop ?_)
  exact wpAny_pure (hQ _ k)
/-- what a tuple's iterator draws, its end too -/
theorem draws_tuple_hot {x1 it t : Addr} (o1 : Obj) (vs1 : Array Value) (hh : A.handled = some (.ref x1)) (d1 : o1.data = .fields vs1) (c1 : vs1[2]? = some .none) (hne : t ≠ it) (hx : x1 ≠ it) (items : Array Value) :
    Draws prog w A it [it, t, x1] items.size (fun i v => items[i]? = some v) (fun i h => h.IsTupleIter it t i ∧ h.IsTuple t items ∧ h.get? x1 = some o1) where
  live := fun _ _ st => let ⟨o, ho, _⟩ := st.1; ⟨o, ho⟩
  frame := fun _ _ _ st hk => ⟨st.1.at fun o e => hk it (by simp) o e, st.2.1.at fun o e => hk t (by simp) o e, hk x1 (by simp) _ st.2.2⟩
  item := fun i s Q E hi st hQ => by
    refine wpAny_nextOf_tuple_item st.1 st.2.1 (x := items[i]) (by simp [hi]) fun h' hit' hs' => ?_
    exact hQ _ h' s.toks (by simp [hi]) ⟨hit', st.2.1.extBut hs'.extBut hne, (hs'.2 x1 hx).trans st.2.2⟩ hs'
  done := fun s Q E st hE => nextOf_tuple_end_hot (x1 := x1) ⟨hh, o1, vs1, st.2.2, d1, c1⟩ st.1 st.2.1 (by simp) hE
/-! ### a tuple taken apart -/
theorem next_tuple_end_hot {it t x1 : Addr} {i : Nat} {items : Array Value} {Q : Option Value → Shared → Prop} (hot : HotAt A x1 s.heap) (hit : IsTupIter s.heap it t i) (ht : IsTup s.heap t items) (hx : items[i]? = none)
    (hQ : ∀ h', Heap.ExtBut it s.heap h' → Q none { s with heap := h' }) : wpAny (model prog w) A (pyNext (.ref it)) Q E s := by
  obtain ⟨oi, gi, ci, di⟩ := id hit
  obtain ⟨ol, gl, _, nl, dl⟩ := ht
  have ne := hot_ne hot gi di (by simp)
  unfold pyNext
  refine wpAny_bind (wpAny_attempt (wpAny_callSpecial?_slot (name := Str.ofString "__next__") hit.typeIs slot_tupleiter_next
    (wpAny_call_entry slot_tupleiter_next hit.typeIs entry_tupleiter_next ?_ (args_tupleiter_next _))))
  show wpAny _ _ (field (.ref it) 0 >>= _) _ _ s
  refine wpAny_bind (wpAny_field gi di (x := .ref t) rfl ?_)
  show wpAny _ _ (if (Value.ref t == Value.none) = true then _ else _) _ _ s
  rw [if_neg (show ¬ ((Value.ref t == Value.none) = true) from Bool.false_ne_true)]
  show wpAny _ _ (field (.ref it) 1 >>= _) _ _ s
  refine wpAny_bind (wpAny_field gi di (x := .int i 0) rfl ?_)
  show wpAny _ _ (seqItems? (.ref t) >>= _) _ _ s
  refine wpAny_bind (wpAny_seqItems gl dl ?_)
  simp only [Int.toNat_natCast, hx]
  refine wpAny_bind (wpAny_rule (wpAny_bind (wpAny_setField gi di (by simp) ?_)))
  refine stop_hot (x1 := x1) (hot_keep (A := A.in1) ⟨hot.1, hot.2⟩ fun o e => ?_) fun h' y k c => ?_
  · exact (Heap.get?_update_other _ _ (Ne.symm ne)).trans e
  obtain ⟨o, ho, hc⟩ := c
  refine wpAny_bind (wpAny_isInstance (T := "StopIteration") (b := true) ⟨o, ho, hc⟩ isSubtype_stop ?_)
  refine wpAny_pure (hQ _ fun b o hb e => k b o ?_)
  exact (Heap.get?_update_other _ _ (Ne.symm hb)).trans e
theorem unpackItems_tuple_hot {t x1 : Addr} {items : Array Value} {Q : List Value → Shared → Prop} (hot : HotAt A x1 s.heap) (ht : IsTup s.heap t items)
    (hQ : ∀ h', Heap.ExtBut s.heap.objs.size s.heap h' → Q items.toList { s with heap := h' }) : wpAny (model prog w) A (unpackItems (.ref t) items.size none) Q E s := by
  have hlt : t ≠ s.heap.objs.size := by obtain ⟨o, ho, _⟩ := ht; exact Nat.ne_of_lt (Heap.lt_size ho)
  have hx1 : x1 ≠ s.heap.objs.size := by obtain ⟨_, o, _, ho, _⟩ := id hot; exact Nat.ne_of_lt (Heap.lt_size ho)
  unfold unpackItems
  refine wpAny_bind ?_
  · unfold notIterableAtAll
    refine wpAny_bind (wpAny_specialOf ht.typeIs slot_tuple_iter.lookup ?_)
    refine wpAny_pure ?_
    simp only [Bool.false_eq_true, if_false]
    refine wpAny_bind (wpAny_holding (iter_tuple ht ?_))
    refine wpAny_bind (wpAny_holding (draw_tuple hlt items.size 0 _ _ ⟨_, Heap.get?_push_size _ rfl, rfl, rfl⟩ (ht.push _) (by omega) fun h₁ hit₁ hs₁ => ?_))
    have hall : List.take items.size (List.drop 0 items.toList) = items.toList := by
      rw [List.drop_zero]; exact List.take_of_length_le (by simp)
    rw [hall]
    rw [if_neg (by simp)]
    have ht₁ : IsTup h₁ t items := (ht.push _).extBut hs₁.extBut hlt
    have hot₁ : HotAt A x1 h₁ := hot_keep hot fun o e => (hs₁.2 x1 hx1).trans (Heap.get?_push_of_some _ e)
    refine wpAny_bind (wpAny_holding (next_tuple_end_hot (x1 := x1) hot₁ hit₁ ht₁ (by simp) fun h₂ he₂ => ?_))
    simp only [Option.isSome_none, Bool.false_eq_true, if_false]
    refine wpAny_pure (hQ h₂ fun b o hb e => he₂ b o hb (hs₁.extBut b o hb (Heap.get?_push_of_some _ e)))
theorem assign_tuple_hot {env : Env} {elts : List Expr} {y1} {pos : Pos} {t x1 : Addr} {items : Array Value} {Q : Unit → Shared → Prop} (hot : HotAt A x1 s.heap) (ht : IsTup s.heap t items)
    (hn : (assignEach elts env).length = items.size) (hstar : (assignEach elts env).findIdx? (·.1) = none)
    (h : ∀ h', Heap.ExtBut s.heap.objs.size s.heap h' → wpAny (model prog w) A (assignInOrder ((assignEach elts env).map (·.2)) items.toList) Q E { s with heap := h' }) :
    wpAny (model prog w) A (assign (.Tuple elts y1 pos) env (.ref t)) Q E s := by
  rw [assign_Tuple]
  refine wpAny_bind (wpAny_standAt ?_)
  unfold unpack
  rw [hn, hstar]
  exact wpAny_bind (wpAny_holding (unpackItems_tuple_hot (x1 := x1) hot ht h))
end
section
variable {X : Cx}
theorem pg_tupH {es : List Expr} {kk : Nat} {pos : Pos} {t : TGs} {n : Nat} (hc : HotC X) (h : PGs X es t)
    (hn : (assignEach es X.env).length = n := by rfl) (hst : (assignEach es X.env).findIdx? (·.1) = none := by rfl) : PG X (.Tuple es kk pos) (gTup X.K n t) := by
  refine ⟨fun pins s σ H v u Q I r hw => ?_⟩
  obtain ⟨a, xs, rfl, hq, hl, hw⟩ := hw
  cases r
  obtain ⟨its, rv, ht, hz⟩ := I.tuple hq
  obtain ⟨x1, hot⟩ := hc.at I
  refine assign_tuple_hot (x1 := x1) hot ht (by simp [hn, ← hl, rv.length]) hst fun h' hx => ?_
  have I1 : Inv X pins σ H { s with heap := h' } := I.kept (t' := s.toks) fun b o e => hx b o (Nat.ne_of_lt (Heap.lt_size e)) e
  exact h.run pins _ σ H xs _ Q I1 (by simpa using rv) hw
end
/-! ### turns -/
theorem turn_enumLH {P : Program} {w : World} {K : PySem.W.Frag} {elts : List Expr} {kk : Nat} {tpos : Pos} (a e it : Addr) :
    TurnH P w K (.Tuple elts kk tpos) (Ite K a) [e, it] e (fun i h => (∃ old, IsEnum h e it ((i : Nat) : Int) old) ∧ h.IsListIter it a i ∧ e ≠ it) where
  mem := (turn_enum (P := P) (w := w) (K := K) (elts := elts) (kk := kk) (tpos := tpos) a e it).mem
  obj := (turn_enum (P := P) (w := w) (K := K) (elts := elts) (kk := kk) (tpos := tpos) a e it).obj
  keep := (turn_enum (P := P) (w := w) (K := K) (elts := elts) (kk := kk) (tpos := tpos) a e it).keep
  item := by
    intro X hP hw hK hc i pins s σ H E I hf st hg
    subst hP hw hK
    obtain ⟨⟨old, he⟩, hit, hne⟩ := st
    obtain ⟨xs, x, hq, hx⟩ := hg
    obtain ⟨its, rv, p, hz⟩ := I.list hq
    obtain ⟨u, hu, ru⟩ := rv.get hx
    have hel : e < s.heap.objs.size := Heap.lt_size he
    have hil : it < s.heap.objs.size := by obtain ⟨_, q, _⟩ := hit; exact Heap.lt_size q
    refine wpAny_pyNext_enum_item he hit p.isList (x := u) (by simpa using hu) hne fun h' ho hit' hT hsz hk => ?_
    refine ⟨_, rfl, wpAny_letOwnedTupleGo_enum (s := { s with heap := h', toks := s.toks + 1 }) ho fun h2 he2 sb => ?_⟩
    have hT2 : h2.get? s.heap.objs.size = some { cls := .type "tuple", data := .seq #[.int i s.toks, u] } := (sb.2 _ (Nat.ne_of_gt hel)).trans hT
    have new : ObjOk X.prog X.w (upd H s.heap.objs.size (.tup [.int (i : Nat), x])) h2 s.heap.objs.size (.tup [.int (i : Nat), x]) :=
      ⟨by show 2 ≤ sizeLine; decide, [.int i s.toks, u], .cons ⟨_, rfl⟩ (.cons ru .nil), ⟨_, hT2, rfl, _, rfl⟩⟩
    have I1 : Inv X pins σ (upd H s.heap.objs.size (.tup [.int (i : Nat), x])) { s with heap := h2, toks := s.toks + 1 } :=
      I.turnedNew (ch := [e, it]) (fun b ob hb q => (sb.2 b (fun z => hb (by simp [z]))).trans (hk b ob (fun z => hb (by simp [z])) (fun z => hb (by simp [z])) q)) hf (Nat.le_refl _) new
    refine ⟨.ref s.heap.objs.size, _, I1, rfl, ⟨_, x, rfl, I.hok.fresh (Nat.le_refl _), rfl, fun ys hy => by rw [I.list_inj hy hq]; exact hx⟩, ⟨⟨u, ?_⟩, hit'.at fun o q => (sb.2 it (Ne.symm hne)).trans q, hne⟩, fun b hb => ?_⟩
    · have e1 : ((i + 1 : Nat) : Int) = (i : Int) + 1 := by omega
      rw [e1]; exact he2
    · have hb' : b < s.heap.objs.size := by
        have e' : b = e ∨ b = it := by simpa using hb
        rcases e' with z | z
        · rw [z]; exact hel
        · rw [z]; exact hil
      rw [upd_ne (Nat.ne_of_lt hb')]
      exact (hf b hb).1
  done := by
    intro X hP hw hK hc i pins s σ H E I hf st hg
    subst hP hw hK
    obtain ⟨⟨old, he⟩, hit, hne⟩ := st
    obtain ⟨xs, hq, hx⟩ := hg
    obtain ⟨its, rv, p, hz⟩ := I.list hq
    obtain ⟨f0, f1, f2, f3, f4, f5⟩ := hf it (by simp)
    obtain ⟨x1, hot⟩ := hc.at I
    have hl := rv.length
    exact enum_end_list_hot (x1 := x1) hot he hit p.isList (by simp; omega) fun h' eb => ⟨rfl, I.turned (t' := s.toks) (fun b o hb q => eb b o hb q) f0 f1 f3 f4 f5⟩
  self := (turn_enum (P := P) (w := w) (K := K) (elts := elts) (kk := kk) (tpos := tpos) a e it).self
theorem turn_enumTH {P : Program} {w : World} {K : PySem.W.Frag} {elts : List Expr} {kk : Nat} {tpos : Pos} (a e it : Addr) (hAi : a ≠ it) :
    TurnH P w K (.Tuple elts kk tpos) (IteT K a) [e, it] e (fun i h => (∃ ol, IsEnum h e it ((i : Nat) : Int) ol) ∧ h.IsTupleIter it a i ∧ e ≠ it) where
  mem := (turn_enumT (P := P) (w := w) (K := K) (elts := elts) (kk := kk) (tpos := tpos) a e it hAi).mem
  obj := (turn_enumT (P := P) (w := w) (K := K) (elts := elts) (kk := kk) (tpos := tpos) a e it hAi).obj
  keep := (turn_enumT (P := P) (w := w) (K := K) (elts := elts) (kk := kk) (tpos := tpos) a e it hAi).keep
  item := by
    intro X hP hw hK hCls i pn s σ H E I hFp stt hGo
    subst hP hw hK
    obtain ⟨⟨ol, hEn⟩, hTi, hDif⟩ := stt
    obtain ⟨xv, x, hSq, hXi⟩ := hGo
    obtain ⟨vals, hvals, p, hLen⟩ := I.tuple hSq
    obtain ⟨u, hUi, rUi⟩ := hvals.get hXi
    have lEn : e < s.heap.objs.size := Heap.lt_size hEn
    have lTi : it < s.heap.objs.size := by obtain ⟨_, q, _⟩ := hTi; exact Heap.lt_size q
    have p' : s.heap.IsTuple a vals.toArray := p
    obtain ⟨x1, hot⟩ := hCls.at I
    have hae : a ≠ e := by
      intro zq
      subst zq
      obtain ⟨o1, e1, c1, _⟩ := p'
      rw [hEn] at e1
      cases e1
      exact absurd (Value.type.inj c1) (by decide)
    have hx1 : x1 ≠ it := by
      obtain ⟨oi, gi, ci, di⟩ := id hTi
      exact hot_ne hot gi di (by simp)
    obtain ⟨hh, o1, vs1, g1, d1, c1⟩ := id hot
    have hxe : x1 ≠ e := by
      intro zq
      rw [zq, hEn] at g1
      cases g1
      cases d1
      cases c1
    have hLt : i < vals.toArray.size := by
      have := (List.getElem?_eq_some_iff.mp hUi).1
      simpa using this
    refine wpAny_pyNext_enum_itemD (draws_tuple_hot (prog := X.prog) (w := X.w) (A := X.A.in1) (x1 := x1) (it := it) (t := a) o1 vs1 hh d1 c1 hAi hx1 vals.toArray) hEn ⟨hTi, p', g1⟩ hLt hDif (by simp [hDif, Ne.symm hae, Ne.symm hxe]) fun x' h' tk0 hP ho st' hTy hSz hKp => ?_
    obtain ⟨hit', p2, _⟩ := st'
    have hx' : x' = u := by
      have : vals[i]? = some x' := by simpa using hP
      rw [hUi] at this
      exact (Option.some.inj this).symm
    subst hx'
    refine ⟨_, rfl, wpAny_letOwnedTupleGo_enum (s := { s with heap := h', toks := tk0 + 1 }) ho fun h2 he2 sBig => ?_⟩
    have hTy2 : h2.get? s.heap.objs.size = some { cls := .type "tuple", data := .seq #[.int i tk0, x'] } := (sBig.2 _ (Nat.ne_of_gt lEn)).trans hTy
    have nw : ObjOk X.prog X.w (upd H s.heap.objs.size (.tup [.int (i : Nat), x])) h2 s.heap.objs.size (.tup [.int (i : Nat), x]) :=
      ⟨by show 2 ≤ sizeLine; decide, [.int i tk0, x'], .cons ⟨_, rfl⟩ (.cons rUi .nil), ⟨_, hTy2, rfl, _, rfl⟩⟩
    have J1 : Inv X pn σ (upd H s.heap.objs.size (.tup [.int (i : Nat), x])) { s with heap := h2, toks := tk0 + 1 } :=
      I.turnedNew (ch := [e, it]) (fun b ob hBm q => (sBig.2 b (fun zq => hBm (by simp [zq]))).trans (hKp b ob (fun zq => hBm (by simp [zq])) (fun zq => hBm (by simp [zq])) q)) hFp (Nat.le_refl _) nw
    refine ⟨.ref s.heap.objs.size, _, J1, rfl, ⟨_, x, rfl, I.hok.fresh (Nat.le_refl _), rfl, fun yv hy => by rw [I.tuple_inj hy hSq]; exact hXi⟩, ⟨⟨x', ?_⟩, hit'.at fun o q => (sBig.2 it (Ne.symm hDif)).trans q, hDif⟩, fun b hBm => ?_⟩
    · have e1 : ((i + 1 : Nat) : Int) = (i : Int) + 1 := by omega
      rw [e1]; exact he2
    · have hBm2 : b < s.heap.objs.size := by
        have ee : b = e ∨ b = it := by simpa using hBm
        rcases ee with zq | zq
        · rw [zq]; exact lEn
        · rw [zq]; exact lTi
      rw [upd_ne (Nat.ne_of_lt hBm2)]
      exact (hFp b hBm).1
  done := by
    intro X hP hw hK hc i pins s σ H E I hf st hg
    subst hP hw hK
    obtain ⟨⟨old, he⟩, hit, hne⟩ := st
    obtain ⟨xs, hq, hx⟩ := hg
    obtain ⟨its, rv, p, hz⟩ := I.tuple hq
    obtain ⟨f0, f1, f2, f3, f4, f5⟩ := hf it (by simp)
    obtain ⟨x1, hot⟩ := hc.at I
    have hl := rv.length
    exact enum_end_tuple_hot (x1 := x1) hot he hit (show s.heap.IsTuple a its.toArray from p) (by simp; omega) fun h' eb => ⟨rfl, I.turned (t' := s.toks) (fun b o hb q => eb b o hb q) f0 f1 f3 f4 f5⟩
  self := (turn_enumT (P := P) (w := w) (K := K) (elts := elts) (kk := kk) (tpos := tpos) a e it hAi).self
section
variable {X : Cx} {tg : Expr}
theorem pi_enumSH {e : Expr} {ta : TA} {p pos tpos : Pos} {elts : List Expr} {kk : Nat} (hg : Gl X "enumerate") (hm : X.mg "enumerate" = none) (ha : PA X [e] ta) (hs : starEach [e] X.env = [(false, eval e X.env)] := by rfl) :
    PIH X (.Tuple elts kk tpos) (.Call (.Name "enumerate" p) [e] [] pos) (iEnumS X.K ta) := by
  refine ⟨fun pn s σ H R I h => ?_⟩
  refine Call_ (ld_blt I hg hm boot_enumerate (PyProof.Rows.callWith_type1 (thn (ha.run pos pn s σ H _ I h) fun us s1 ⟨vs, H1, J1, rel1, post1⟩ => ?_) hs rfl))
  obtain ⟨a, xs, ex, hq, q⟩ := post1
  subst ex
  cases rel1 with
  | cons r rr =>
    cases rr
    cases r
    have fin : ∀ b ∈ [s1.heap.objs.size + 1, s1.heap.objs.size], s1.heap.objs.size ≤ b := fun b hb => by
      have ee : b = s1.heap.objs.size + 1 ∨ b = s1.heap.objs.size := by simpa using hb
      rcases ee with z | z
      · rw [z]; exact Nat.le_add_right _ _
      · rw [z]; exact Nat.le_refl _
    rcases hq with hq | hq
    · obtain ⟨vals, hvals, p', hLen⟩ := J1.list hq
      refine call_enumerate_list p'.isList fun h' he hit hSz hk => wpAny_pyIter_enum he ?_
      have J2 : Inv X pn σ H1 { s1 with heap := h' } := J1.kept (t' := s1.toks) hk
      exact ⟨s1.heap.objs.size + 1, [s1.heap.objs.size + 1, s1.heap.objs.size], _, _, H1, rfl, J2, turn_enumLH a (s1.heap.objs.size + 1) s1.heap.objs.size, ⟨⟨.none, he⟩, hit, Nat.succ_ne_self _⟩, fun b hb => J1.fpOk (fin b hb) (J1.hok.fresh (fin b hb)), q _ _ walk_enum fun H e => sqL_at hq (e a (by simp))⟩
    · obtain ⟨vals, hvals, p', hLen⟩ := J1.tuple hq
      have hal : a ≠ s1.heap.objs.size := by
        obtain ⟨o, e, _⟩ := (show s1.heap.IsTuple a vals.toArray from p')
        exact Nat.ne_of_lt (Heap.lt_size e)
      refine call_enumerate_tuple (show s1.heap.IsTuple a vals.toArray from p') fun h' he hit hSz hk => wpAny_pyIter_enum he ?_
      have J2 : Inv X pn σ H1 { s1 with heap := h' } := J1.kept (t' := s1.toks) hk
      exact ⟨s1.heap.objs.size + 1, [s1.heap.objs.size + 1, s1.heap.objs.size], _, _, H1, rfl, J2, turn_enumTH a (s1.heap.objs.size + 1) s1.heap.objs.size hal, ⟨⟨.none, he⟩, hit, Nat.succ_ne_self _⟩, fun b hb => J1.fpOk (fin b hb) (J1.hok.fresh (fin b hb)), q _ _ walk_enumT fun H e => sqT_at hq (e a (by simp))⟩
theorem piEnumH {e : Expr} {tas : TA} {p pos tpos : Pos} {elts : List Expr} {kk : Nat} (K : Frag) (hK : X.K = K) (hg : Gl X "enumerate") (hm : X.mg "enumerate" = none) (ha : PA X [e] tas) (hs : starEach [e] X.env = [(false, eval e X.env)] := by rfl) :
    PIH X (.Tuple elts kk tpos) (.Call (.Name "enumerate" p) [e] [] pos) (iEnumS K tas) := by subst hK; exact pi_enumSH hg hm ha hs
theorem pi_range2H {a b : Expr} {ta : TA} {p pos : Pos} (hg : Gl X "range") (hm : X.mg "range" = none) (ha : PA X [a, b] ta) (hs : starEach [a, b] X.env = [(false, eval a X.env), (false, eval b X.env)] := by rfl) (hs2 : starEach [b] X.env = [(false, eval b X.env)] := by rfl) :
    PIH X tg (.Call (.Name "range" p) [a, b] [] pos) (iRng2 ta) := by
  refine ⟨fun pins s σ H R I h => ?_⟩
  refine Call_ (ld_blt I hg hm boot_range (PyProof.Rows.callWith_type1 (thn (ha.run pos pins s σ H _ I h) fun us s1 ⟨vs, H1, I1, r1, q1⟩ => ?_) (by rw [hs, hs2]) (by rw [hs2]; rfl)))
  obtain ⟨i, j, e, ⟨q1, q2, q3, q4⟩, q⟩ := q1
  subst e
  cases r1 with
  | cons r rr =>
    cases rr with
    | cons r' rr =>
      cases rr
      obtain ⟨t, rfl⟩ := r
      obtain ⟨t', rfl⟩ := r'
      exact call_range_2 (range_itH I1 q1 q2 q3 q4 q)
end
end GmH
/-! Comprehensions while an exception is handled. -/
namespace GmH
open PySem PySem.Spec PyProof.Rows L2 HotX L2H Gm
/-- the block's context, the handled exception kept -/
abbrev blkH (X : Cx) (s : Shared) (H : Hp) (scope : Scope) (cenv : Env) (fp : List Addr) : Cx := { X.blk s H scope cenv fp with pn := X.pn }
theorem inv_pn {X : Cx} {pins pins' : List (Addr × Obj)} {σ σ' : L2.St} {H3 : Hp} {s3 s4 : Shared} {scope : Scope} {ce : Env} {fp : List Addr} (I3 : Inv X pins σ H3 s3) (cL : ce.locals = s3.heap.objs.size) (kp : ∀ b o, s3.heap.get? b = some o → s4.heap.get? b = some o)
    (I : Inv (X.blk s3 H3 scope ce fp) [] σ' H3 s4) : Inv (blkH X s3 H3 scope ce fp) [] σ' H3 s4 := by
  refine ⟨⟨I.ok.mod, I.ok.kind, I.ok.glob, I.ok.blt, I.ok.above, I.ok.inj, I.ok.has, I.ok.cab, I.ok.hd, I.ok.frames, I.ok.stk, I.ok.exf, I.ok.bs, I.ok.bsz, I.ok.noex, I.ok.exfs, I.ok.funs, I.ok.frf⟩, I.os, I.bare, I.base, I.loc, I.cell, I.free, I.freeC, fun p hp => ?_, I.hok, I.len⟩
  have hp : p ∈ X.pn := by
    have : p ∈ X.pn ++ [] := hp
    simpa using this
  obtain ⟨g, n, nl, nf, nc⟩ := I3.pin p (List.mem_append_left _ hp)
  refine ⟨kp _ _ g, n, ?_, fun hm => ?_, nc⟩
  · show p.1 ≠ ce.locals
    rw [cL]
    exact Nat.ne_of_lt (Heap.lt_size g)
  · have hm : p.1 ∈ frs X.stack := hm
    rcases List.mem_cons.mp (I3.stkSub _ hm) with z | z
    · exact nl z
    · exact nf z
section
variable {X : Cx}
abbrev BlkH (X : Cx) (scope : Scope) (P : Cx → Prop) : Prop := ∀ (s : Shared) (H : Hp) (C : Addr) (cl : List (Str × Addr)) (fp : List Addr), HotC (blkH X s H scope (compEnvC scope cl C X.env) fp) → P (blkH X s H scope (compEnvC scope cl C X.env) fp)
theorem lc_coreH {pins : List (Addr × Obj)} {s : Shared} {σ : L2.St} {H : Hp} {Q : VK} {elt tg iter : Expr} {ifs : List Expr} {scope : Scope} {own : List (Str × Nat)} {pos pos' : Pos} {wi : TI} {g : TG} {tt : TT} {te : TE} {use : Option (Value → Sem Unit)} {Qf : Value → Shared → Prop}
    (hc : HotC X) (hN : X.N.Nodup) (I : Inv X pins σ H s) (hi : PIH X tg iter wi) (ok : BlkOk X.N X.env.scope scope own)
    (hg : BlkH X scope fun X' => PG X' tg g) (ht : BlkH X scope fun X' => PTs X' ifs tt) (he : BlkH X scope fun X' => PE X' elt te) (hs : ∀ x, foldedSetIterable iter X.env x = pure x)
    (h : tLc wi g tt te (own.map (·.2)) σ H Q)
    (hRR : ∀ D C s' m H', Inv X pins σ H' s' → Q (.ref D) H' → s'.heap.Ns C m → FpOk X pins H' C → compPost (model X.prog X.w) X.A X.xe use Qf (.ref D) C (.ok .next) s') :
    wpAny (model X.prog X.w) X.A (comprehension (.ListComp elt [⟨tg, iter, ifs, 0⟩] scope pos) scope X.env pos' (newList []) false (eval iter X.env) use) Qf X.xe s := by
  have hfree : ∀ y ∈ scope.names, y.2 = .free → ∃ c, X.env.cells.lookup y.1 = some c := fun y hy e => by
    rcases ok.free y hy e with k | k
    · exact I.ok.has _ (.inl k)
    · exact I.ok.has _ (.inr k)
  refine wpAny_comprehension_free (use := use) rfl hs (closure_ok hfree) ok.kind (fun y hy e => by rw [ok.uniq y hy, e])
    (thn (hi.run pins s σ H _ I h) fun xv s1 hx => thn hx fun itv s2 h2 => ?_)
  obtain ⟨it, fp, tn, J, H2, e, I2, T, st2, f2, q⟩ := h2
  subst e
  refine wpAny_newObj_type (newEnv_comp ?_) (by show 0 ≤ sizeLine; decide)
  generalize hD : s2.heap.objs.size = D
  have hDn : H2 D = none := I2.hok.fresh (Nat.le_of_eq hD)
  obtain ⟨W, ⟨m0, w0⟩, turn⟩ := q D hDn
  generalize hs3 : ({ s2 with heap := s2.heap.push { cls := .type "list", data := .seq ([] : List Value).toArray } } : Shared) = s3
  have I3 : Inv X pins σ (upd H2 D (.lst [])) s3 := by
    rw [← hs3]
    refine I2.laid (t' := s2.toks) (fun b o e => Heap.get?_push_of_some _ e) (Nat.le_of_eq hD) ⟨Nat.zero_le _, [], 0, .nil, ?_⟩
    rw [← hD]
    exact Heap.get?_push_size _ rfl
  have h3 : s3.heap = s2.heap.push { cls := .type "list", data := .seq ([] : List Value).toArray } := by rw [← hs3]
  have sz : ∀ b ∈ fp, b < s2.heap.objs.size := fun b hb => by
    obtain ⟨o, e, _⟩ := T.obj _ _ st2 b hb
    exact Heap.lt_size e
  have f3 : ∀ b ∈ fp, FpOk X pins (upd H2 D (.lst [])) b ∧ b < s3.heap.objs.size := fun b hb => by
    have hlt := sz b hb
    refine ⟨⟨?_, (f2 b hb).2⟩, by rw [h3, Heap.size_push]; exact Nat.lt_succ_of_lt hlt⟩
    rw [upd_ne (by rw [← hD]; exact Nat.ne_of_lt hlt)]
    exact (f2 b hb).1
  have st3 : tn 0 s3.heap := T.keep _ _ _ st2 fun b _ o e => by rw [h3]; exact Heap.get?_push_of_some _ e
  have I4 := block_start I3 ok hN f3
  have pg := hg s3 (upd H2 D (.lst [])) s3.heap.objs.size (cellsFrom (s3.heap.objs.size + 1) scope.names (cloFrom X.env.cells scope.names [])) fp
  have pt := ht s3 (upd H2 D (.lst [])) s3.heap.objs.size (cellsFrom (s3.heap.objs.size + 1) scope.names (cloFrom X.env.cells scope.names [])) fp
  have pe := he s3 (upd H2 D (.lst [])) s3.heap.objs.size (cellsFrom (s3.heap.objs.size + 1) scope.names (cloFrom X.env.cells scope.names [])) fp
  show codeAny _ _ (.compStart (.ListComp elt [⟨tg, iter, ifs, 0⟩] scope pos) 0 (.ref it) (.ref D) (compEnvC scope (cellsFrom (s3.heap.objs.size + 1) scope.names (cloFrom X.env.cells scope.names [])) s3.heap.objs.size X.env)) (compPost (model X.prog X.w) X.A X.xe use Qf (.ref D) s3.heap.objs.size) { s3 with heap := pushCells (s3.heap.push { cls := .type "dict", data := .dict #[] }) scope.names }
  have nfp : ∀ b ∈ fp, (upd H2 D (.lst [])) b = none := fun b hb => (f3 b hb).1.1
  generalize hce : compEnvC scope (cellsFrom (s3.heap.objs.size + 1) scope.names (cloFrom X.env.cells scope.names [])) s3.heap.objs.size X.env = ce at I4 pg pt pe ⊢
  have cL : ce.locals = s3.heap.objs.size := by subst hce; rfl
  have cF : ce.frame = X.env.frame := by subst hce; rfl
  generalize hH3 : upd H2 D (.lst []) = H3 at I3 I4 pg pt pe w0 nfp f3
  generalize hs4 : ({ s3 with heap := pushCells (s3.heap.push { cls := .type "dict", data := .dict #[] }) scope.names } : Shared) = s4 at I4 ⊢
  have st4 : tn 0 s4.heap := T.keep _ _ _ st3 fun b _ o e => by rw [← hs4]; exact pushCells_keeps _ _ _ _ (Heap.get?_push_of_some _ e)
  have I4 := inv_pn (s4 := s4) (pins' := []) I3 cL (fun b o e => by rw [← hs4]; exact pushCells_keeps _ _ _ _ (Heap.get?_push_of_some _ e)) I4
  have hcB : HotC (blkH X s3 H3 scope ce fp) := by
    obtain ⟨p, hh, hp⟩ := hc
    exact ⟨p, hh, hp⟩
  have pg := pg hcB
  have pt := pt hcB
  have pe := pe hcB
  have stat : ∀ {σ' : L2.St} {H' : Hp} {s' : Shared}, Inv (blkH X s3 H3 scope ce fp) [] σ' H' s' → (∀ b ∈ fp, H' b = none) → ∀ b ∈ fp, FpOk (blkH X s3 H3 scope ce fp) [] H' b := fun {σ' H' s'} I' hn b hb =>
    ⟨hn b hb, (I'.ok.exf b hb).1, I'.ok.exfs b hb, .inl hb, fun x c e => (I'.ok.exf b hb).2 x c e, fun p hp => (f3 b hb).1.2.2.2.2.2 p (List.mem_append_left _ (by
      have hp : p ∈ X.pn ++ [] := hp
      simpa using hp))⟩
  have loop : codeAny (model X.prog X.w) X.A (.compLoop (.ListComp elt [⟨tg, iter, ifs, 0⟩] scope pos) 0 (.ref it) (.ref D) ce) (compPost (model X.prog X.w) X.A X.xe use Qf (.ref D) s3.heap.objs.size) s4 := by
    refine compLoop_any (fun n s' => ∃ i H', Inv (blkH X s3 H3 scope ce fp) [] (wipe σ (own.map (·.2))) H' s' ∧ tn i s'.heap ∧ (∀ b ∈ fp, H' b = none) ∧ W i n H') ?_ m0 ⟨0, H3, I4, st4, nfp, w0⟩
    rintro n s5 ⟨i, H5, I5, st5, n5, w5⟩
    rcases turn i n H5 w5 with ⟨stop, qq⟩ | ⟨go, Nx, hNx, step⟩
    · have td := T.done (blkH X s3 H3 scope ce fp) rfl rfl rfl hcB i [] s5 _ H5 (fun _ _ => False) I5 (stat I5 n5) st5 stop
      refine thnF td fun r s6 ⟨hr, I6⟩ => ?_
      subst hr
      have I7 : Inv X pins σ H5 s6 := I3.call' (ch := fp) I6.os I6.base I6.hok I6.bare fun b hb => ⟨(f3 b hb).1.2.2.2.1, (f3 b hb).1.2.1, (f3 b hb).1.2.2.2.2.1, (f3 b hb).1.2.2.2.2.2⟩
      have nC : H5 s3.heap.objs.size = none := by
        have z : H5 ce.locals = none := I6.free
        rw [cL] at z
        exact z
      obtain ⟨m, hn, _⟩ := I6.loc
      have hn : s6.heap.Ns ce.locals m := hn
      rw [cL] at hn
      exact hRR D s3.heap.objs.size s6 m H5 I7 qq hn (I3.fpOk (Nat.le_refl _) nC)
    · have ti := T.item (blkH X s3 H3 scope ce fp) rfl rfl rfl hcB i [] s5 _ H5 (fun _ _ => False) I5 (stat I5 n5) st5 go
      refine thnF ti fun r s6 ⟨u, hr, h6⟩ => ?_
      subst hr
      refine thnF h6 fun _ s7 ⟨x, H7, I7, r7, y7, st7, n7⟩ => ?_
      have I7' := I7.pinned (stat I7 n7) (T.obj _ _ st7)
      refine thnF (pg.run _ s7 _ H7 x u _ I7' r7 (step x H7 y7)) fun _ s8 ⟨σ8, H8, I8, hw8, q8⟩ => ?_
      refine thnF (pt.run _ s8 σ8 H8 _ I8 q8) fun b s9 ⟨H9, I9, q9⟩ => ?_
      have fin : ∀ {s' : Shared} {H' : Hp}, Inv (blkH X s3 H3 scope ce fp) ([] ++ pinsAt fp s7.heap) σ8 H' s' → Nx H' → ∃ m, m < n ∧ ∃ i H', Inv (blkH X s3 H3 scope ce fp) [] (wipe σ (own.map (·.2))) H' s' ∧ tn i s'.heap ∧ (∀ b ∈ fp, H' b = none) ∧ W i m H' := fun {s' H'} I' nx => by
        obtain ⟨m', hm, w'⟩ := hNx H' nx
        have pin' : ∀ b ∈ fp, ∀ o, s7.heap.get? b = some o → s'.heap.get? b = some o ∧ H' b = none := fun b hb o e =>
          let z := I'.pin (b, o) (List.mem_append_right _ (List.mem_append_right _ (mem_pinsAt hb e)))
          ⟨z.1, z.2.1⟩
        have hl : (wipe σ (own.map (·.2))).length = σ8.length := by rw [← hw8, wipe_length]
        refine ⟨m', hm, i + 1, H', (I'.unpinned (pins := [])).weak hl (fun j v e => ?_), T.keep _ _ _ st7 fun b hb o e => (pin' b hb o e).1, fun b hb => ?_, w'⟩
        · rw [← hw8] at e
          exact (wipe_some e).1
        · obtain ⟨o, e, _⟩ := T.obj _ _ st7 b hb
          exact (pin' b hb o e).2
      cases b with
      | false =>
        simp only [Bool.false_eq_true, if_false] at q9 ⊢
        exact fin I9 q9
      | true =>
        simp only [if_true] at q9 ⊢
        refine thnF (pe.run _ s9 σ8 H9 _ I9 q9) fun z s10 ⟨yv, H10, I10, r10, acc, hD10, hz10, nx⟩ => ?_
        exact app_ok (X := blkH X s3 H3 scope ce fp) I10 hD10 hz10 r10 fun s11 I11 => fin I11 nx
  exact codeAny_compStart_list loop (T.self X.A 0 _ _ _ st4 loop)


theorem pe_lcH {elt tg iter : Expr} {ifs : List Expr} {scope : Scope} {own : List (Str × Nat)} {pos : Pos} {wi : TI} {g : TG} {tt : TT} {te : TE}
    (hc : HotC X) (hN : X.N.Nodup) (hi : PIH X tg iter wi) (ok : BlkOk X.N X.env.scope scope own)
    (hg : BlkH X scope fun X' => PG X' tg g) (ht : BlkH X scope fun X' => PTs X' ifs tt) (he : BlkH X scope fun X' => PE X' elt te) (hs : ∀ x, foldedSetIterable iter X.env x = pure x := by intro _; rfl) :
    PE X (.ListComp elt [⟨tg, iter, ifs, 0⟩] scope pos) (tLc wi g tt te (own.map (·.2))) := by
  refine ⟨fun pins s σ H Q I h => ?_⟩
  rw [eval_ListComp]
  refine lc_coreH hc hN I hi ok hg ht he hs h fun D C s' m H' I' q hn f => ⟨m, hn, fun h'' sb => ?_⟩
  obtain ⟨f0, f1, f2, f3, f4, f5⟩ := f
  exact ⟨.ref D, H', I'.turned (t' := s'.toks) (fun b o hb e => (sb.2 b hb).trans e) f0 f1 f3 f4 f5, rfl, q⟩
theorem ps_setLcH {i : Nat} {y : Str} {py : Pos} {elt tg iter : Expr} {ifs : List Expr} {scope : Scope} {own : List (Str × Nat)} {pos spos : Pos} {wi : TI} {g : TG} {tt : TT} {te : TE} (hc : HotC X) (hN : X.N.Nodup) (hy : X.N[i]? = some y) (hyl : X.env.scope.names.lookup y = some .local)
    (hsw : swapsWith (.ListComp elt [⟨tg, iter, ifs, 0⟩] scope pos) (some (.Name y py)) spos.line X.env = pure true) (hi : PIH X tg iter wi) (ok : BlkOk X.N X.env.scope scope own)
    (hg : BlkH X scope fun X' => PG X' tg g) (ht : BlkH X scope fun X' => PTs X' ifs tt) (he : BlkH X scope fun X' => PE X' elt te) (hs : ∀ x, foldedSetIterable iter X.env x = pure x := by intro _; rfl) :
    PS X (.Assign [.Name y py] (.ListComp elt [⟨tg, iter, ifs, 0⟩] scope pos) spos) (tAsg (tLc wi g tt te (own.map (·.2))) (gName i)) := by
  refine ⟨fun pins s σ H D I h => ?_⟩
  rw [exec_Assign_Name_used _ _ _ _ hsw]
  refine wpAny_bind (wpAny_standAt (wpAny_bind ?_))
  show wpAny _ _ (do let _ ← comprehension (.ListComp elt [⟨tg, iter, ifs, 0⟩] scope pos) scope X.env (firstIterPos [⟨tg, iter, ifs, 0⟩] pos) (newList []) false (eval iter X.env) (some (assign (.Name y py) X.env))) _ _ s
  have h : tLc wi g tt te (own.map (·.2)) σ H (fun x H1 => gName i x σ H1 D.nx) := h
  refine wpAny_bind (thn (lc_coreH (Qf := fun _ s' => SP X pins D .next s') hc hN I hi ok hg ht he hs h fun L C s' m H' I' q hn f => ?_) fun _ s' hq => wpAny_pure (wpAny_pure hq))
  show wpAny _ _ (assign (.Name y py) X.env (.ref L)) _ _ _
  refine wpAny_assign_Name (store_ok2 (v := V.ref L) I' hN hy (.inl hyl) rfl (fun s2 I2 ⟨a, sb, ha⟩ => ?_) (.inr hyl))
  obtain ⟨f0, f1, f2, f3, f4, f5⟩ := f
  have haC : C ≠ a := by
    rcases ha with z | z
    · rw [z]; exact f1
    · exact fun e => f4 y a z e.symm
  refine ⟨m, hn.sameBut sb haC, fun h3 sb3 => ?_⟩
  exact ⟨_, H', I2.turned (t' := s2.toks) (fun b o hb e => (sb3.2 b hb).trans e) f0 f1 f3 f4 f5, q⟩
end
section
variable {X : Cx} {k : Nat} {f C : Addr} {fd : FuncData} {ps : List Str} {sp : Sp} {x m : Str} {q pos apos : Pos} {e o : Expr} {es : List Expr} {ta : TE} {t : TA}
theorem tCall_eq {E : XK} : tCall sp [] E t = tCallS sp (fun _ => E) t := by
  funext σ H Q
  show (t σ H fun vs H1 => sp (vs ++ []) H1 Q E) = t σ H fun vs H1 => sp vs H1 Q E
  simp only [List.append_nil]
theorem pe_cH (F : FnH X.prog X.w X.K X.mg X.base CX0 k f fd ps sp) (hr : RoomH k X.A) (hc : HotC X) (hg : Gl X x) (hm : X.mg x = some (.ref f)) (hk : PySem.W.keepIn X.K (.ref f) = true) (hb : Binds X.K fd ps [])
    (ha : PA X (e :: es) t) (hdb : (x == ("__debug__" : Str)) = false := by decide) (he : starEach (e :: es) X.env = (false, eval e X.env) :: starEach es X.env := by rfl) (hpl : (backTo pos (starEach es X.env)).any (·.1) = false := by rfl) :
    PE X (.Call (.Name x q) (e :: es) [] pos) (tCall sp [] L2.E0 t) := by
  rw [tCall_eq]
  exact pe_callH (E := fun _ => L2.E0) F hr hc hg hm hk hb (fun _ _ _ _ _ _ _ h => h.elim) ha hdb he hpl
theorem pe_mt0H {pl : Sem Bool} (he : PE X o ta) (c : Cls X.K C) (hm : Meth X.K C m f) (F : FnH X.prog X.w X.K X.mg X.base CX0 k f fd ps sp) (hr : RoomH k X.A) (hc : HotC X) (hb : Binds X.K fd ps [])
    (ht : eval (.Call (.Attribute o m apos) [] [] pos) X.env = (do
      let ov ← eval o X.env
      standAt apos.atName
      let (f, first) ← holding [ov] (getMethod ov m pl)
      callWith pos f first (backTo pos (starEach [] X.env)) (backToKw pos (keywordEach [] X.env))) := by rfl) :
    PE X (.Call (.Attribute o m apos) [] [] pos) (tMeth C m sp [] L2.E0 ta tNil) := by
  refine ⟨fun pins s σ H Q I h => ?_⟩
  refine PySem.W.methodCall_KW (pl := pl) (thn (he.run pins s σ H _ I h) fun u s1 ⟨x, H1, I1, rx, a, dx, fs, ex, ea, l, q⟩ => ?_) ht
  subst ex
  obtain rfl : u = Value.ref a := rx
  refine getmeth_ok I1 ea c hm l ?_
  exact PySem.W.callWith_K0 (first := [.ref a]) I1.kIn hm.kp (run_fnH (E := fun _ => L2.E0) (us := [.ref a]) (vs := [.ref a]) F hr hc hb (fun _ _ _ _ _ _ h => h.elim) I1 (.cons rfl .nil) q)
theorem hotc {CX : CXT} {P : Program} {w : World} {K : PySem.W.Frag} {mg : Str → Option Value} {base : Heap} {N : List Str} {qual : Str} {scope : Scope} {f : Addr} {cd : Value} {A : Around} {outer : List Env} {s : Shared} {H : Hp} {E : XK} {p : Addr × Obj}
    (h : Hot1 A p) : HotC (cxH CX P w K mg base N qual scope f cd A outer s H E p) := ⟨p, ⟨h.1, h.2⟩, List.mem_singleton.mpr rfl⟩
end
theorem room100H {k : Nat} {A : Around} (hr : RoomH k A) (hk : 40 ≤ k) : A.depth + 100 < recursionLimit := by
  have := hr.dp
  omega
end GmH
namespace K03
open PySem PySem.Spec PyProof.Rows L2 Gm
def topS (i : Nat) : Stmt := PySem.Challenge.pw_gridmetric_k03_unimodular_matrices.main.body.getD i (.Pass ⟨0, 0, 0, 0⟩)
abbrev s_Refused_init : Stmt := inClass (topS 4) 0
theorem sc_Refused_init : FnScope ["self", "reason"] ["self", "reason"] (defScope s_Refused_init) := ⟨rfl, rfl, rfl, by decide +kernel, rfl, by decide +kernel, by decide +kernel⟩
abbrev s_is_integer : Stmt := topS 6
theorem sc_is_integer : FnScope ["value"] ["value"] (defScope s_is_integer) := ⟨rfl, rfl, rfl, by decide +kernel, rfl, by decide +kernel, by decide +kernel⟩
abbrev s_determinant_of : Stmt := topS 9
theorem sc_determinant_of : FnScope ["rows", "sign", "last", "at", "top", "k", "row"] ["rows"] (defScope s_determinant_of) := ⟨rfl, rfl, rfl, by decide +kernel, rfl, by decide +kernel, by decide +kernel⟩
abbrev s_first_with_head : Stmt := topS 10
theorem sc_first_with_head : FnScope ["rows", "k", "row"] ["rows"] (defScope s_first_with_head) := ⟨rfl, rfl, rfl, by decide +kernel, rfl, by decide +kernel, by decide +kernel⟩
abbrev s_cleared : Stmt := topS 11
theorem sc_cleared : FnScope ["top", "row", "last", "k"] ["top", "row", "last"] (defScope s_cleared) := ⟨rfl, rfl, rfl, by decide +kernel, rfl, by decide +kernel, by decide +kernel⟩
abbrev s_minor : Stmt := topS 12
theorem sc_minor : FnScope ["rows", "i", "j", "kept", "k", "row"] ["rows", "i", "j"] (defScope s_minor) := ⟨rfl, rfl, rfl, by decide +kernel, rfl, by decide +kernel, by decide +kernel⟩
abbrev s_adjugate_of : Stmt := topS 13
theorem sc_adjugate_of : FnScope ["rows", "places", "i", "j"] ["rows"] (defScope s_adjugate_of) := ⟨rfl, rfl, rfl, by decide +kernel, rfl, by decide +kernel, by decide +kernel⟩
abbrev s_signed_minor : Stmt := topS 14
theorem sc_signed_minor : FnScope ["rows", "i", "j"] ["rows", "i", "j"] (defScope s_signed_minor) := ⟨rfl, rfl, rfl, by decide +kernel, rfl, by decide +kernel, by decide +kernel⟩
abbrev s_Grid_init : Stmt := inClass (topS 16) 0
theorem sc_Grid_init : FnScope ["self", "rows", "width"] ["self", "rows", "width"] (defScope s_Grid_init) := ⟨rfl, rfl, rfl, by decide +kernel, rfl, by decide +kernel, by decide +kernel⟩
abbrev s_Grid_eq : Stmt := inClass (topS 16) 1
theorem sc_Grid_eq : FnScope ["self", "other"] ["self", "other"] (defScope s_Grid_eq) := ⟨rfl, rfl, rfl, by decide +kernel, rfl, by decide +kernel, by decide +kernel⟩
abbrev s_Grid_len : Stmt := inClass (topS 16) 2
theorem sc_Grid_len : FnScope ["self"] ["self"] (defScope s_Grid_len) := ⟨rfl, rfl, rfl, by decide +kernel, rfl, by decide +kernel, by decide +kernel⟩
abbrev s_Grid_scaled : Stmt := inClass (topS 16) 8
theorem sc_Grid_scaled : FnScope ["self", "k", "row", "item"] ["self", "k"] (defScope s_Grid_scaled) := ⟨rfl, rfl, rfl, by decide +kernel, rfl, by decide +kernel, by decide +kernel⟩
abbrev s_Grid_is_square : Stmt := inClass (topS 16) 13
theorem sc_Grid_is_square : FnScope ["self"] ["self"] (defScope s_Grid_is_square) := ⟨rfl, rfl, rfl, by decide +kernel, rfl, by decide +kernel, by decide +kernel⟩
abbrev s_Grid_determinant : Stmt := inClass (topS 16) 14
theorem sc_Grid_determinant : FnScope ["self"] ["self"] (defScope s_Grid_determinant) := ⟨rfl, rfl, rfl, by decide +kernel, rfl, by decide +kernel, by decide +kernel⟩
abbrev s_Grid_adjugate : Stmt := inClass (topS 16) 15
theorem sc_Grid_adjugate : FnScope ["self"] ["self"] (defScope s_Grid_adjugate) := ⟨rfl, rfl, rfl, by decide +kernel, rfl, by decide +kernel, by decide +kernel⟩
abbrev s_Grid_is_unimodular : Stmt := inClass (topS 16) 16
theorem sc_Grid_is_unimodular : FnScope ["self"] ["self"] (defScope s_Grid_is_unimodular) := ⟨rfl, rfl, rfl, by decide +kernel, rfl, by decide +kernel, by decide +kernel⟩
abbrev s_Grid_inverse : Stmt := inClass (topS 16) 17
theorem sc_Grid_inverse : FnScope ["self"] ["self"] (defScope s_Grid_inverse) := ⟨rfl, rfl, rfl, by decide +kernel, rfl, by decide +kernel, by decide +kernel⟩
abbrev s_checked_rows : Stmt := topS 17
theorem sc_checked_rows : FnScope ["rows", "row", "item"] ["rows"] (defScope s_checked_rows) := ⟨rfl, rfl, rfl, by decide +kernel, rfl, by decide +kernel, by decide +kernel⟩
abbrev s_checked_width : Stmt := topS 18
theorem sc_checked_width : FnScope ["rows", "width", "row"] ["rows", "width"] (defScope s_checked_width) := ⟨rfl, rfl, rfl, by decide +kernel, rfl, by decide +kernel, by decide +kernel⟩
abbrev s_check_square : Stmt := topS 20
theorem sc_check_square : FnScope ["a"] ["a"] (defScope s_check_square) := ⟨rfl, rfl, rfl, by decide +kernel, rfl, by decide +kernel, by decide +kernel⟩
abbrev s_law_state : Stmt := topS 22
theorem sc_law_state : FnScope ["script", "seed", "total", "cell"] ["script"] (defScope s_law_state) := ⟨rfl, rfl, rfl, by decide +kernel, rfl, by decide +kernel, by decide +kernel⟩
abbrev s_law_take : Stmt := topS 23
theorem sc_law_take : FnScope ["state", "m", "value"] ["state", "m"] (defScope s_law_take) := ⟨rfl, rfl, rfl, by decide +kernel, rfl, by decide +kernel, by decide +kernel⟩
abbrev s_law_product : Stmt := topS 24
theorem sc_law_product : FnScope ["a", "b", "width", "out", "row", "line", "k", "total", "j"] ["a", "b", "width"] (defScope s_law_product) := ⟨rfl, rfl, rfl, by decide +kernel, rfl, by decide +kernel, by decide +kernel⟩
abbrev s_law_unit : Stmt := topS 25
theorem sc_law_unit : FnScope ["n", "i", "k"] ["n"] (defScope s_law_unit) := ⟨rfl, rfl, rfl, by decide +kernel, rfl, by decide +kernel, by decide +kernel⟩
abbrev s_law_step : Stmt := topS 26
theorem sc_law_step : FnScope ["rows", "i", "k", "factor", "out", "x", "y"] ["rows", "i", "k", "factor"] (defScope s_law_step) := ⟨rfl, rfl, rfl, by decide +kernel, rfl, by decide +kernel, by decide +kernel⟩
abbrev s_law_unimodular : Stmt := topS 27
theorem sc_law_unimodular : FnScope ["state", "n", "rows", "turn"] ["state", "n"] (defScope s_law_unimodular) := ⟨rfl, rfl, rfl, by decide +kernel, rfl, by decide +kernel, by decide +kernel⟩
abbrev s_law_is_rows : Stmt := topS 28
theorem sc_law_is_rows : FnScope ["value", "height", "width", "row", "x"] ["value", "height", "width"] (defScope s_law_is_rows) := ⟨rfl, rfl, rfl, by decide +kernel, rfl, by decide +kernel, by decide +kernel⟩
abbrev s_law_refused : Stmt := topS 29
theorem sc_law_refused : FnScope ["grid", "e"] ["grid"] (defScope s_law_refused) := ⟨rfl, rfl, rfl, by decide +kernel, rfl, by decide +kernel, by decide +kernel⟩
abbrev s_law : Stmt := topS 30
theorem sc_law : FnScope ["script", "state", "n", "rows", "grid", "other", "at", "factor", "bad", "x"] ["script"] (defScope s_law) := ⟨rfl, rfl, rfl, by decide +kernel, rfl, by decide +kernel, by decide +kernel⟩
structure Top (K : PySem.W.Frag) (mg : Str → Option Value) where
  a_Refused_init : Addr
  a_is_integer : Addr
  a_determinant_of : Addr
  a_first_with_head : Addr
  a_cleared : Addr
  a_minor : Addr
  a_adjugate_of : Addr
  a_signed_minor : Addr
  a_Grid_init : Addr
  a_Grid_eq : Addr
  a_Grid_len : Addr
  a_Grid_scaled : Addr
  a_Grid_is_square : Addr
  a_Grid_determinant : Addr
  a_Grid_adjugate : Addr
  a_Grid_is_unimodular : Addr
  a_Grid_inverse : Addr
  a_checked_rows : Addr
  a_checked_width : Addr
  a_check_square : Addr
  a_law_state : Addr
  a_law_take : Addr
  a_law_product : Addr
  a_law_unit : Addr
  a_law_step : Addr
  a_law_unimodular : Addr
  a_law_is_rows : Addr
  a_law_refused : Addr
  a_law : Addr
  d_Refused_init : FuncData
  d_is_integer : FuncData
  d_determinant_of : FuncData
  d_first_with_head : FuncData
  d_cleared : FuncData
  d_minor : FuncData
  d_adjugate_of : FuncData
  d_signed_minor : FuncData
  d_Grid_init : FuncData
  d_Grid_eq : FuncData
  d_Grid_len : FuncData
  d_Grid_scaled : FuncData
  d_Grid_is_square : FuncData
  d_Grid_determinant : FuncData
  d_Grid_adjugate : FuncData
  d_Grid_is_unimodular : FuncData
  d_Grid_inverse : FuncData
  d_checked_rows : FuncData
  d_checked_width : FuncData
  d_check_square : FuncData
  d_law_state : FuncData
  d_law_take : FuncData
  d_law_product : FuncData
  d_law_unit : FuncData
  d_law_step : FuncData
  d_law_unimodular : FuncData
  d_law_is_rows : FuncData
  d_law_refused : FuncData
  d_law : FuncData
  C_Grid : Addr
  X_Malformed : Addr
  X_Refused : Addr
  F_Refused_init : Fun K "__init__" "Refused.__init__" s_Refused_init a_Refused_init d_Refused_init
  b_Refused_init : Binds K d_Refused_init ["self", "reason"] []
  F_is_integer : Fun K "is_integer" "is_integer" s_is_integer a_is_integer d_is_integer
  b_is_integer : Binds K d_is_integer ["value"] []
  g_is_integer : mg "is_integer" = some (.ref a_is_integer)
  F_determinant_of : Fun K "determinant_of" "determinant_of" s_determinant_of a_determinant_of d_determinant_of
  b_determinant_of : Binds K d_determinant_of ["rows"] []
  g_determinant_of : mg "determinant_of" = some (.ref a_determinant_of)
  F_first_with_head : Fun K "first_with_head" "first_with_head" s_first_with_head a_first_with_head d_first_with_head
  b_first_with_head : Binds K d_first_with_head ["rows"] []
  g_first_with_head : mg "first_with_head" = some (.ref a_first_with_head)
  F_cleared : Fun K "cleared" "cleared" s_cleared a_cleared d_cleared
  b_cleared : Binds K d_cleared ["top", "row", "last"] []
  g_cleared : mg "cleared" = some (.ref a_cleared)
  F_minor : Fun K "minor" "minor" s_minor a_minor d_minor
  b_minor : Binds K d_minor ["rows", "i", "j"] []
  g_minor : mg "minor" = some (.ref a_minor)
  F_adjugate_of : Fun K "adjugate_of" "adjugate_of" s_adjugate_of a_adjugate_of d_adjugate_of
  b_adjugate_of : Binds K d_adjugate_of ["rows"] []
  g_adjugate_of : mg "adjugate_of" = some (.ref a_adjugate_of)
  F_signed_minor : Fun K "signed_minor" "signed_minor" s_signed_minor a_signed_minor d_signed_minor
  b_signed_minor : Binds K d_signed_minor ["rows", "i", "j"] []
  g_signed_minor : mg "signed_minor" = some (.ref a_signed_minor)
  F_Grid_init : FunD K "__init__" "Grid.__init__" (defArgs s_Grid_init) (defBody s_Grid_init) (defScope s_Grid_init) [.non] [] a_Grid_init d_Grid_init
  b_Grid_init : Binds K d_Grid_init ["self", "rows", "width"] []
  F_Grid_eq : Fun K "__eq__" "Grid.__eq__" s_Grid_eq a_Grid_eq d_Grid_eq
  b_Grid_eq : Binds K d_Grid_eq ["self", "other"] []
  m_Grid_eq : Meth K C_Grid "__eq__" a_Grid_eq
  F_Grid_len : Fun K "__len__" "Grid.__len__" s_Grid_len a_Grid_len d_Grid_len
  b_Grid_len : Binds K d_Grid_len ["self"] []
  m_Grid_len : Meth K C_Grid "__len__" a_Grid_len
  F_Grid_scaled : Fun K "scaled" "Grid.scaled" s_Grid_scaled a_Grid_scaled d_Grid_scaled
  b_Grid_scaled : Binds K d_Grid_scaled ["self", "k"] []
  m_Grid_scaled : Meth K C_Grid "scaled" a_Grid_scaled
  F_Grid_is_square : Fun K "is_square" "Grid.is_square" s_Grid_is_square a_Grid_is_square d_Grid_is_square
  b_Grid_is_square : Binds K d_Grid_is_square ["self"] []
  m_Grid_is_square : Meth K C_Grid "is_square" a_Grid_is_square
  F_Grid_determinant : Fun K "determinant" "Grid.determinant" s_Grid_determinant a_Grid_determinant d_Grid_determinant
  b_Grid_determinant : Binds K d_Grid_determinant ["self"] []
  m_Grid_determinant : Meth K C_Grid "determinant" a_Grid_determinant
  F_Grid_adjugate : Fun K "adjugate" "Grid.adjugate" s_Grid_adjugate a_Grid_adjugate d_Grid_adjugate
  b_Grid_adjugate : Binds K d_Grid_adjugate ["self"] []
  m_Grid_adjugate : Meth K C_Grid "adjugate" a_Grid_adjugate
  F_Grid_is_unimodular : Fun K "is_unimodular" "Grid.is_unimodular" s_Grid_is_unimodular a_Grid_is_unimodular d_Grid_is_unimodular
  b_Grid_is_unimodular : Binds K d_Grid_is_unimodular ["self"] []
  m_Grid_is_unimodular : Meth K C_Grid "is_unimodular" a_Grid_is_unimodular
  F_Grid_inverse : Fun K "inverse" "Grid.inverse" s_Grid_inverse a_Grid_inverse d_Grid_inverse
  b_Grid_inverse : Binds K d_Grid_inverse ["self"] []
  m_Grid_inverse : Meth K C_Grid "inverse" a_Grid_inverse
  F_checked_rows : Fun K "checked_rows" "checked_rows" s_checked_rows a_checked_rows d_checked_rows
  b_checked_rows : Binds K d_checked_rows ["rows"] []
  g_checked_rows : mg "checked_rows" = some (.ref a_checked_rows)
  F_checked_width : Fun K "checked_width" "checked_width" s_checked_width a_checked_width d_checked_width
  b_checked_width : Binds K d_checked_width ["rows", "width"] []
  g_checked_width : mg "checked_width" = some (.ref a_checked_width)
  F_check_square : Fun K "check_square" "check_square" s_check_square a_check_square d_check_square
  b_check_square : Binds K d_check_square ["a"] []
  g_check_square : mg "check_square" = some (.ref a_check_square)
  F_law_state : Fun K "_law_state" "_law_state" s_law_state a_law_state d_law_state
  b_law_state : Binds K d_law_state ["script"] []
  g_law_state : mg "_law_state" = some (.ref a_law_state)
  F_law_take : Fun K "_law_take" "_law_take" s_law_take a_law_take d_law_take
  b_law_take : Binds K d_law_take ["state", "m"] []
  g_law_take : mg "_law_take" = some (.ref a_law_take)
  F_law_product : Fun K "_law_product" "_law_product" s_law_product a_law_product d_law_product
  b_law_product : Binds K d_law_product ["a", "b", "width"] []
  g_law_product : mg "_law_product" = some (.ref a_law_product)
  F_law_unit : Fun K "_law_unit" "_law_unit" s_law_unit a_law_unit d_law_unit
  b_law_unit : Binds K d_law_unit ["n"] []
  g_law_unit : mg "_law_unit" = some (.ref a_law_unit)
  F_law_step : Fun K "_law_step" "_law_step" s_law_step a_law_step d_law_step
  b_law_step : Binds K d_law_step ["rows", "i", "k", "factor"] []
  g_law_step : mg "_law_step" = some (.ref a_law_step)
  F_law_unimodular : Fun K "_law_unimodular" "_law_unimodular" s_law_unimodular a_law_unimodular d_law_unimodular
  b_law_unimodular : Binds K d_law_unimodular ["state", "n"] []
  g_law_unimodular : mg "_law_unimodular" = some (.ref a_law_unimodular)
  F_law_is_rows : Fun K "_law_is_rows" "_law_is_rows" s_law_is_rows a_law_is_rows d_law_is_rows
  b_law_is_rows : Binds K d_law_is_rows ["value", "height", "width"] []
  g_law_is_rows : mg "_law_is_rows" = some (.ref a_law_is_rows)
  F_law_refused : Fun K "_law_refused" "_law_refused" s_law_refused a_law_refused d_law_refused
  b_law_refused : Binds K d_law_refused ["grid"] []
  g_law_refused : mg "_law_refused" = some (.ref a_law_refused)
  F_law : Fun K "law" "law" s_law a_law d_law
  b_law : Binds K d_law ["script"] []
  g_law : mg "law" = some (.ref a_law)
  g_Grid : mg "Grid" = some (.ref C_Grid)
  cl_Grid : Cls K C_Grid
  mk_Grid : Mk K C_Grid a_Grid_init
  n_rows : NoAttr K C_Grid "rows"
  n_width : NoAttr K C_Grid "width"
  sf_Grid : PySem.W.selfFirst K C_Grid = true
  kc_Grid : PySem.W.findIn K (.ref C_Grid) "__class__" = some (some (.builtin "object.__class__"))
  kg_Grid : PySem.W.specialIn K (.builtin "object.__class__") "__get__" = some (some (.builtin "getset_descriptor.__get__"))
  kt_Grid : PySem.W.takesIn K (.builtin "object.__class__") = some true
  km_Grid : PySem.W.mroIn K C_Grid (.type "object") = some true
  ty_Grid : PySem.W.typeIn K (.ref C_Grid) = some (.type "type")
  ic_Grid : PySem.W.isClsIn K C_Grid = true
  ne_Grid : PySem.W.findIn K (.ref C_Grid) "__ne__" = some (some (.builtin "object.__ne__"))
  z_ValueError : mg "ValueError" = none
  z_abs : mg "abs" = none
  z_all : mg "all" = none
  z_bool : mg "bool" = none
  z_enumerate : mg "enumerate" = none
  z_int : mg "int" = none
  z_isinstance : mg "isinstance" = none
  z_len : mg "len" = none
  z_list : mg "list" = none
  z_range : mg "range" = none
  z_tuple : mg "tuple" = none
  z_zip : mg "zip" = none
  oX_Refused : OexC K X_Refused
  nI_Refused : PySem.W.findIn K (.ref X_Refused) "__init__" = some (some (.ref a_Refused_init))
  jI_Refused : PySem.W.typeIn K (.ref a_Refused_init) = some (.type "function")
  nf_Refused : PySem.W.findIn K (.ref X_Refused) "reason" = some none
  fX_Refused : XfC K X_Refused
  cX_Refused : (PySem.W.clsIn K X_Refused).isSome = true
  mX_Refused : PySem.W.mroIn K X_Refused (.type "object") = some true
  hX_Refused : PySem.W.findIn K (.ref X_Refused) "__class__" = some (some (.builtin "object.__class__"))
  sub_Refused_Malformed : PySem.W.subIn K (.ref X_Refused) (.ref X_Malformed) = some false
  sub_Malformed_Refused : PySem.W.subIn K (.ref X_Malformed) (.ref X_Refused) = some false
  gX_Malformed : mg "Malformed" = some (.ref X_Malformed)
  xX_Malformed : PySem.W.excIn K X_Malformed [.type "ValueError", .type "Exception", .type "BaseException", .type "object"] "ValueError.__new__" = true
  kX_Malformed : PySem.W.keepIn K (.ref X_Malformed) = true
  bX_Malformed : PySem.W.subIn K (.ref X_Malformed) (.type "BaseException") = some true
  tX_Malformed : PySem.W.typeIn K (.ref X_Malformed) = some (.type "type")
  iX_Malformed : PySem.W.isClsIn K X_Malformed = true
  sX_Malformed : PySem.W.subIn K (.ref X_Malformed) (.ref X_Malformed) = some true
  gX_Refused : mg "Refused" = some (.ref X_Refused)
  kX_Refused : PySem.W.keepIn K (.ref X_Refused) = true
  bX_Refused : PySem.W.subIn K (.ref X_Refused) (.type "BaseException") = some true
  tX_Refused : PySem.W.typeIn K (.ref X_Refused) = some (.type "type")
  iX_Refused : PySem.W.isClsIn K X_Refused = true
  sX_Refused : PySem.W.subIn K (.ref X_Refused) (.ref X_Refused) = some true
end K03
namespace K03
open PySem PySem.Spec PyProof.Rows L2 Gm
open C8 (Cal Met Mak pe_c pe_mt pe_mt0 pe_mk)
section
variable {P : Program} {w : World} {K : PySem.W.Frag} {mg : Str → Option Value} {base : Heap}
/-! ### is_integer -/
def sp_is_integer : Sp := fun vs H Q _ => ∃ i, vs = [V.int i] ∧ Q (.bl true) H
theorem ok_is_integer (T : Top K mg) : FnOk P w K mg base CX0 1 T.a_is_integer T.d_is_integer ["value"] sp_is_integer := by
  refine T.F_is_integer.ok sc_is_integer (fun vs H Q E h => ?_) (fun cdv A outer s H vs Q E hr h => ?_)
  · obtain ⟨i, rfl, _⟩ := h
    rfl
  · obtain ⟨i, rfl, q⟩ := h
    refine ⟨_, (pss_one (ps_ret (pe_and (pe_callB (isiK K rfl) (by rfl) T.z_isinstance (by decide +kernel) (pa_cons (pv 0) (pa_cons (pe_bltn (v := .ty "int") (by rfl) T.z_int (by decide +kernel) rfl) pa_nil))) (pe_one (pe_not (pe_callB (isiK K rfl) (by rfl) T.z_isinstance (by decide +kernel) (pa_cons (pv 0) (pa_cons (pe_bltn (v := .ty "bool") (by rfl) T.z_bool (by decide +kernel) rfl) pa_nil)))))))), ?_⟩
    refine ⟨_, rfl, .int i, .ty "int", _, _, true, rfl, .ty "int", .base (.int i), kit_ty (by decide +kernel), true, rfl, iteT ?_⟩
    exact ⟨_, rfl, .int i, .ty "bool", _, _, false, rfl, .ty "bool", .base (.int i), kit_ty (by decide +kernel), false, rfl, q⟩
theorem cal_is_integer (T : Top K mg) (hN : base.NoSeer) (hT : P.given.tree = none) : Cal P w K mg base 1 "is_integer" sp_is_integer [] := ⟨⟨_, _, _, [], ok_is_integer T, T.g_is_integer, T.F_is_integer.kp, T.b_is_integer, .nil⟩⟩
/-! ### first_with_head -/
/-- the first place from k on whose row does not begin with 0 -/
def firstHead : List (List Int) → Nat → Option Nat
  | [], _ => none
  | r :: rs, k => if r.headD 0 ≠ 0 then some k else firstHead rs (k + 1)
theorem firstHead_step : ∀ (m : List (List Int)) (i j : Nat) (r : List Int), m[i]? = some r → (∀ k, k < i → ∀ r', m[k]? = some r' → r'.headD 0 = 0) → firstHead m j = if r.headD 0 ≠ 0 then some (j + i) else firstHead (m.drop (i + 1)) (j + i + 1)
  | [], i, j, r, h, _ => by simp at h
  | a :: m, 0, j, r, h, _ => by
    have e : a = r := by simpa using h
    subst e
    rfl
  | a :: m, i + 1, j, r, h, z => by
    have h0 : a.headD 0 = 0 := z 0 (Nat.succ_pos _) a rfl
    show (if a.headD 0 ≠ 0 then some j else firstHead m (j + 1)) = _
    rw [if_neg (by rw [h0]; simp), firstHead_step m i (j + 1) r (by simpa using h) fun k hk r' e => z (k + 1) (by omega) r' (by simpa using e)]
    rw [show j + 1 + i = j + (i + 1) by omega]
    rfl
theorem firstHead_none {m : List (List Int)} : ∀ {j : Nat}, (∀ r ∈ m, r.headD 0 = 0) → firstHead m j = none := by
  induction m with
  | nil => intro _ _; rfl
  | cons a m ih =>
    intro j h
    show (if a.headD 0 ≠ 0 then some j else firstHead m (j + 1)) = none
    rw [if_neg (by rw [h a (List.mem_cons_self ..)]; simp), ih fun r hr => h r (List.mem_cons_of_mem _ hr)]
def optV : Option Nat → V
  | none => .non
  | some k => .int k
def sp_first_with_head (K : PySem.W.Frag) : Sp := fun vs H Q _ => ∃ v m, vs = [v] ∧ IRows K H v m ∧ m.length ≤ 1000 ∧ (∀ r ∈ m, r ≠ []) ∧ ∀ H', Same H H' → Q (optV (firstHead m 0)) H'
theorem ok_first_with_head (T : Top K mg) : FnOk P w K mg base CX0 1 T.a_first_with_head T.d_first_with_head ["rows"] (sp_first_with_head K) := by
  refine T.F_first_with_head.ok sc_first_with_head (fun vs H Q E h => ?_) (fun cdv A outer s H vs Q E hr h => ?_)
  · obtain ⟨v, m, rfl, _⟩ := h
    rfl
  · obtain ⟨v, m, rfl, ⟨a, vs, rfl, hs, hp⟩, hl, hne, q⟩ := h
    refine ⟨_, (pss_cons (ps_for PassesOwn.never rfl (piEnum K rfl (by rfl) T.z_enumerate (pa_cons (pv 0) pa_nil)) (pg_tup rfl (pgs_cons (pg_name (i := 1) sc_first_with_head.nd rfl (by first | exact .inl rfl | exact .inr rfl)) (pgs_cons (pg_name (i := 2) sc_first_with_head.nd rfl (by first | exact .inl rfl | exact .inr rfl)) pgs_nil)))
      (pss_one (ps_if (pt_cmpR op_ne (pe_ix (ixS K rfl) (pv 2) pe_int (fun _ _ => rfl)) pe_int (nomark _))
      (pss_one (ps_ret (pv 1)))
      pss_nil)))
      (pss_one (ps_ret pe_non))), ?_⟩
    have lv := Paired.length hp
    refine ⟨_, rfl, a, vs, rfl, hs, fun J G W hG => ?_⟩
    refine for_it W (fun i σ H2 => ∃ y1 y2, σ = [some (.ref a), y1, y2] ∧ Same H H2 ∧ ∀ k, k < i → ∀ r, m[k]? = some r → r.headD 0 = 0) ⟨none, none, rfl, Same.refl H, fun k hk => absurd hk (Nat.not_lt_zero _)⟩ ?_ ?_ ?_
    · rintro i σ H2 hi ⟨y1, y2, rfl, s2, _⟩
      exact hG _ fun b _ o => s2 b o
    · rintro i x σ H2 H2' hi ⟨y1, y2, rfl, s2, hz⟩ ⟨U, x1, x2, rfl, nU, rfl, e1, e2⟩
      cases e1
      obtain ⟨r, er, a2, rfl, hs2⟩ := Paired.getR hp e2
      have hmr : r ∈ m := List.mem_of_getElem? er
      obtain ⟨z, r', rfl⟩ : ∃ z r', r = z :: r' := by
        cases r with
        | nil => exact absurd rfl (hne _ hmr)
        | cons z r' => exact ⟨z, r', rfl⟩
      have sU : Same H2 (upd H2 U (.tup [.int (i : Nat), .ref a2])) := same_upd nU
      refine g_pair nU ?_
      have hs3 := hs2.same (s2.trans sU)
      refine ⟨_, rfl, ?_⟩
      have at0 : atI ((z :: r').map V.int) 0 = some (.int z) := atI_nat (j := 0) rfl
      refine rIx_seq hs3 at0 ?_
      refine ⟨rfl, _, rfl, ?_⟩
      by_cases hz0 : z = 0
      · subst hz0
        refine iteNS rfl ?_
        refine ⟨_, _, rfl, s2.trans sU, fun k hk r'' e => ?_⟩
        by_cases hki : k = i
        · subst hki
          rw [er] at e
          cases e
          rfl
        · exact hz k (by omega) r'' e
      · rw [show decide (V.int z = V.int 0) = false from decide_eq_false fun e => hz0 (V.int.inj e)]
        refine iteT ?_
        refine ⟨_, rfl, ?_⟩
        have e := firstHead_step m i 0 (z :: r') er hz
        rw [if_pos (show (z :: r').headD 0 ≠ 0 from hz0), Nat.zero_add] at e
        rw [e] at q
        exact q _ (s2.trans sU)
    · rintro σ H2 ⟨y1, y2, rfl, s2, hz⟩
      have e : firstHead m 0 = none := firstHead_none fun r hr => by
        obtain ⟨k, hk⟩ := List.getElem?_of_mem hr
        refine hz k ?_ r hk
        rw [lv]
        exact (List.getElem?_eq_some_iff.mp hk).1
      rw [e] at q
      exact q _ s2
theorem cal_first_with_head (T : Top K mg) (hN : base.NoSeer) (hT : P.given.tree = none) : Cal P w K mg base 1 "first_with_head" (sp_first_with_head K) [] := ⟨⟨_, _, _, [], ok_first_with_head T, T.g_first_with_head, T.F_first_with_head.kp, T.b_first_with_head, .nil⟩⟩

end
end K03
namespace K03
open PySem PySem.Spec PyProof.Rows L2 Gm
open C8 (Cal Met Mak pe_c pe_mt pe_mt0 pe_mk)
section
variable {P : Program} {w : World} {K : PySem.W.Frag} {mg : Str → Option Value} {base : Heap}
/-! ### cleared -/
/-- the items of the row behind its first, once that is made 0 by the top row -/
def clr (ts rs : List Int) (l : Int) : List Int := List.zipWith (fun a b => (ts.headD 0 * b - rs.headD 0 * a).fdiv l) ts.tail rs.tail
theorem clr_len {ts rs : List Int} {l : Int} (h : ts.length = rs.length) : (clr ts rs l).length = ts.length - 1 := by
  unfold clr
  rw [List.length_zipWith, List.length_tail, List.length_tail, h, Nat.min_self]
theorem clr_get {ts rs : List Int} {l : Int} {k : Nat} {a b : Int} (h1 : ts[k + 1]? = some a) (h2 : rs[k + 1]? = some b) : (clr ts rs l)[k]? = some ((ts.headD 0 * b - rs.headD 0 * a).fdiv l) := by
  unfold clr
  rw [List.getElem?_zipWith]
  have e1 : ts.tail[k]? = some a := by rw [List.getElem?_tail]; exact h1
  have e2 : rs.tail[k]? = some b := by rw [List.getElem?_tail]; exact h2
  rw [e1, e2]
/-- all items have fewer than B bits -/
def Bits (B : Nat) (ns : List Int) : Prop := ∀ x ∈ ns, x.natAbs < 2 ^ B
theorem Bits.at {B : Nat} {ns : List Int} {k : Nat} {x : Int} (h : Bits B ns) (e : ns[k]? = some x) : x.natAbs < 2 ^ B := h x (List.mem_of_getElem? e)
def sp_cleared (K : PySem.W.Frag) : Sp := fun vs H Q _ => ∃ v1 v2 ts rs l B, vs = [v1, v2, V.int l] ∧ IRow K H v1 ts ∧ IRow K H v2 rs ∧ ts.length = rs.length ∧ 0 < ts.length ∧ ts.length ≤ 1000 ∧ l ≠ 0 ∧ Bits B ts ∧ Bits B rs ∧ B ≤ 60000000 ∧
  ∀ H' p, Same H H' → H p = none → H' p = some (.lst ((clr ts rs l).map V.int)) → Q (.ref p) H'
theorem ok_cleared (T : Top K mg) (hN : base.NoSeer) (hT : P.given.tree = none) : FnOk P w K mg base CX0 41 T.a_cleared T.d_cleared ["top", "row", "last"] (sp_cleared K) := by
  refine T.F_cleared.ok sc_cleared (fun vs H Q E h => ?_) (fun cdv A outer s H vs Q E hr h => ?_)
  · obtain ⟨v1, v2, ts, rs, l, B, rfl, _⟩ := h
    rfl
  · obtain ⟨v1, v2, ts, rs, l, B, rfl, ⟨a, rfl, ht⟩, ⟨b, rfl, hr'⟩, hl, h0, hl2, hl0, bt, br, hB, q⟩ := h
    refine ⟨_, (pss_one (ps_ret (pe_lc (own := [("k", 3)]) (g := (gName 3)) (by rfl) sc_cleared.nd (pi_range2 (by rfl) T.z_range (pa_cons pe_int (pa_cons (pe_callB (lenS K rfl) (by rfl) T.z_len (by decide +kernel) (pa_cons (pv 0) pa_nil)) pa_nil))) ((by show BlkOk ["top", "row", "last", "k"] (defScope s_cleared) _ _; exact blkOk_by (by decide +kernel))) (fun _ _ _ _ _ => (pg_name (i := 3) sc_cleared.nd rfl (by first | exact .inl rfl | exact .inr rfl))) (fun _ _ _ _ _ => pts_nil) (fun _ _ _ _ _ => (pe_op (op_fdivQ hN rfl rfl rfl rfl rfl hT (room100 hr (by decide))) (pe_op op_sub (pe_op op_mulX (pe_ix (ixS K rfl) (pv 0) pe_int (fun _ _ => rfl)) (pe_ix (ixS K rfl) (pv 1) (pv 3) (fun _ _ => rfl))) (pe_op op_mulX (pe_ix (ixS K rfl) (pv 1) pe_int (fun _ _ => rfl)) (pe_ix (ixS K rfl) (pv 0) (pv 3) (fun _ _ => rfl)))) (pv 2)))))), ?_⟩
    refine ⟨_, rfl, a, _, rfl, ht, 1, _, rfl, ⟨by decide, by decide, by rw [List.length_map]; omega, by rw [List.length_map]; omega⟩, fun D hD => ?_⟩
    refine lc_all walk_range hD (by rw [List.length_map]; omega) (fun _ _ => trivial) (fun i v _ => ∃ x y, ts[i + 1]? = some x ∧ rs[i + 1]? = some y ∧ v = .int ((ts.headD 0 * y - rs.headD 0 * x).fdiv l)) (fun _ _ _ _ _ _ _ h => h) ?_ gm_name ?_
    · rintro i x H2 H2' acc Ko hi s2 eD ⟨rfl, rfl⟩ k
      refine ⟨rfl, ?_⟩
      have hi' : i + 1 < ts.length := by
        rw [List.length_map] at hi
        omega
      have hi2 : i + 1 < rs.length := by omega
      have e0 : atI (ts.map V.int) 0 = some (.int (ts.headD 0)) := by
        cases ts with
        | nil => exact absurd h0 (by simp)
        | cons t ts => exact atI_nat (j := 0) rfl
      have f0 : atI (rs.map V.int) 0 = some (.int (rs.headD 0)) := by
        cases rs with
        | nil => rw [List.length_nil] at hi2; omega
        | cons t ts => exact atI_nat (j := 0) rfl
      have e1 : atI (ts.map V.int) (1 + (i : Nat)) = some (.int ts[i + 1]) := at_of (j := i + 1) (by omega) (ints_at (List.getElem?_eq_getElem hi'))
      have f1 : atI (rs.map V.int) (1 + (i : Nat)) = some (.int rs[i + 1]) := at_of (j := i + 1) (by omega) (ints_at (List.getElem?_eq_getElem hi2))
      have bt0 : (ts.headD 0).natAbs < 2 ^ B := by
        cases ts with
        | nil => exact absurd h0 (by simp)
        | cons t ts => exact bt t (List.mem_cons_self ..)
      have br0 : (rs.headD 0).natAbs < 2 ^ B := by
        cases rs with
        | nil => rw [List.length_nil] at hi2; omega
        | cons t ts => exact br t (List.mem_cons_self ..)
      refine ⟨_, rfl, ?_⟩
      refine rIx_seq (ht.same s2) e0 ?_
      refine ⟨_, rfl, _, rfl, ?_⟩
      refine rIx_seq (hr'.same s2) f1 ?_
      refine ⟨_, _, rfl, rfl, mulx_ok bt0 (br.at (List.getElem?_eq_getElem hi2)) (by omega), ?_⟩
      refine ⟨_, rfl, ?_⟩
      refine rIx_seq (hr'.same s2) f0 ?_
      refine ⟨_, rfl, _, rfl, ?_⟩
      refine rIx_seq (ht.same s2) e1 ?_
      refine ⟨_, _, rfl, rfl, mulx_ok br0 (bt.at (List.getElem?_eq_getElem hi')) (by omega), ?_⟩
      refine ⟨_, _, rfl, rfl, ?_⟩
      refine ⟨_, rfl, _, l, rfl, rfl, hl0, ?_⟩
      exact k _ _ (Same.refl _) ⟨_, _, List.getElem?_eq_getElem hi', List.getElem?_eq_getElem hi2, rfl⟩
    · intro H2 lst s2 eD hp
      have el : lst = (clr ts rs l).map V.int := by
        apply List.ext_getElem?
        intro i
        have ln := Paired.length hp
        rw [List.length_range, List.length_map] at ln
        have lc := clr_len (l := l) hl
        by_cases hi : i < lst.length
        · obtain ⟨j, ej, x, y, ex, ey, ev⟩ := Paired.getL hp (List.getElem?_eq_getElem hi)
          have hj : j = i := by
            have := List.getElem?_range (n := ((ts.length : Int) - 1).toNat) (i := i) (by omega)
            rw [List.length_map] at ej
            rw [this] at ej
            exact (Option.some.inj ej).symm
          subst hj
          rw [List.getElem?_eq_getElem hi, ev, List.getElem?_map, clr_get ex ey]
          rfl
        · rw [List.getElem?_eq_none (by omega), List.getElem?_eq_none (by rw [List.length_map]; omega)]
      rw [el] at eD
      exact q H2 D s2 hD eD
theorem cal_cleared (T : Top K mg) (hN : base.NoSeer) (hT : P.given.tree = none) : Cal P w K mg base 41 "cleared" (sp_cleared K) [] := ⟨⟨_, _, _, [], ok_cleared T hN hT, T.g_cleared, T.F_cleared.kp, T.b_cleared, .nil⟩⟩

end
end K03
namespace K03
open PySem PySem.Spec PyProof.Rows L2 Gm
open C8 (Cal Met Mak pe_c pe_mt pe_mt0 pe_mk)
section
variable {P : Program} {w : World} {K : PySem.W.Frag} {mg : Str → Option Value} {base : Heap}
/-! ### determinant_of -/
/-- the elimination without fractions, by the number of rows -/
def bare : Nat → Int → Int → List (List Int) → Int
  | 0, s, l, _ => s * l
  | n + 1, s, l, m => match firstHead m 0 with
    | none => 0
    | some k => bare n (if k % 2 = 1 then -s else s) ((m.getD k []).headD 0) ((m.eraseIdx k).map fun r => clr (m.getD k []) r l)
theorem firstHead_some : ∀ {m : List (List Int)} {j k : Nat}, firstHead m j = some k → j ≤ k ∧ k < j + m.length ∧ (m.getD (k - j) []).headD 0 ≠ 0
  | [], _, _, h => by cases h
  | a :: m, j, k, h => by
    by_cases ha : a.headD 0 ≠ 0
    · have e : firstHead (a :: m) j = some j := if_pos ha
      rw [e] at h
      cases h
      refine ⟨Nat.le_refl _, by simp, ?_⟩
      rw [Nat.sub_self]
      exact ha
    · have e : firstHead (a :: m) j = firstHead m (j + 1) := if_neg ha
      rw [e] at h
      obtain ⟨h1, h2, h3⟩ := firstHead_some h
      refine ⟨by omega, by rw [List.length_cons]; omega, ?_⟩
      rw [show k - j = (k - (j + 1)) + 1 by omega]
      exact h3
theorem fdiv_le (x l : Int) : (x.fdiv l).natAbs ≤ x.natAbs := by
  cases x with
  | ofNat m =>
    cases l with
    | ofNat n =>
      show (Int.fdiv (m : Int) (n : Int)).natAbs ≤ m
      rw [Int.fdiv_eq_ediv_of_nonneg _ (by omega)]
      show m / n ≤ m
      exact Nat.div_le_self _ _
    | negSucc n =>
      cases m with
      | zero => exact Nat.le_refl _
      | succ m =>
        show (m / (n + 1)) + 1 ≤ m + 1
        have := Nat.div_le_self m (n + 1)
        omega
  | negSucc m =>
    cases l with
    | ofNat n =>
      cases n with
      | zero => exact Nat.zero_le _
      | succ n =>
        show (m / (n + 1)) + 1 ≤ m + 1
        have := Nat.div_le_self m (n + 1)
        omega
    | negSucc n =>
      show (m + 1) / (n + 1) ≤ m + 1
      exact Nat.div_le_self _ _
theorem clr_bits {ts rs : List Int} {l : Int} {B : Nat} (bt : Bits B ts) (br : Bits B rs) : Bits (2 * B + 1) (clr ts rs l) := by
  intro x hx
  obtain ⟨k, hk⟩ := List.getElem?_of_mem hx
  unfold clr at hk
  rw [List.getElem?_zipWith] at hk
  cases e1 : ts.tail[k]? with
  | none => rw [e1] at hk; cases hk
  | some a =>
    cases e2 : rs.tail[k]? with
    | none => rw [e1, e2] at hk; cases hk
    | some b =>
      rw [e1, e2] at hk
      have ex : (ts.headD 0 * b - rs.headD 0 * a).fdiv l = x := Option.some.inj hk
      rw [← ex]
      refine Nat.lt_of_le_of_lt (fdiv_le _ _) ?_
      have ha : a.natAbs < 2 ^ B := bt a (List.mem_of_mem_tail (List.mem_of_getElem? e1))
      have hb : b.natAbs < 2 ^ B := br b (List.mem_of_mem_tail (List.mem_of_getElem? e2))
      have h1 : (ts.headD 0).natAbs < 2 ^ B := by
        cases ts with
        | nil => cases e1
        | cons t ts => exact bt t (List.mem_cons_self ..)
      have h2 : (rs.headD 0).natAbs < 2 ^ B := by
        cases rs with
        | nil => cases e2
        | cons t ts => exact br t (List.mem_cons_self ..)
      have p1 := wide_lt h1 hb
      have p2 := wide_lt h2 ha
      have e3 : 2 ^ (2 * B + 1) = 2 ^ (B + B) + 2 ^ (B + B) := by rw [show 2 * B + 1 = (B + B) + 1 by omega, Nat.pow_succ]; omega
      rw [e3]
      omega
/-- a square matrix of size n whose items have fewer than B bits -/
structure Sq (n B : Nat) (m : List (List Int)) : Prop where
  len : m.length = n
  row : ∀ r ∈ m, r.length = n
  bits : ∀ r ∈ m, Bits B r
theorem Sq.next {n B : Nat} {m : List (List Int)} (h : Sq (n + 1) B m) {k : Nat} (hk : k < n + 1) (l : Int) : Sq n (2 * B + 1) ((m.eraseIdx k).map fun r => clr (m.getD k []) r l) := by
  have hk' : k < m.length := by rw [h.len]; exact hk
  have eg : m.getD k [] = m[k] := by rw [List.getD_eq_getElem?_getD, List.getElem?_eq_getElem hk']; rfl
  have hm : m.getD k [] ∈ m := by rw [eg]; exact List.getElem_mem _
  refine ⟨?_, fun r hr => ?_, fun r hr => ?_⟩
  · rw [List.length_map, List.length_eraseIdx_of_lt hk', h.len]
    rfl
  · obtain ⟨r', hr', rfl⟩ := List.mem_map.mp hr
    have h1 := h.row r' (List.mem_of_mem_eraseIdx hr')
    have h2 := h.row _ hm
    rw [clr_len (by omega)]
    omega
  · obtain ⟨r', hr', rfl⟩ := List.mem_map.mp hr
    exact clr_bits (h.bits _ hm) (h.bits _ (List.mem_of_mem_eraseIdx hr'))
/-- the places that are kept -/
theorem filter_ne_range (n k : Nat) : (List.range n).filter (fun i => decide (i ≠ k)) = (List.range n).eraseIdx k := by
  induction n with
  | zero => simp
  | succ n ih =>
    rw [List.range_succ, List.filter_append, ih, List.filter_cons, List.filter_nil]
    by_cases h : n = k
    · subst h
      rw [if_neg (by simp), List.append_nil, List.eraseIdx_append_of_length_le (by simp), List.length_range, Nat.sub_self]
      simp [List.eraseIdx_of_length_le]
    · rw [if_pos (by simpa using h)]
      by_cases h2 : k < n
      · rw [List.eraseIdx_append_of_lt_length (by simpa using h2)]
      · rw [List.eraseIdx_of_length_le (by simp; omega), List.eraseIdx_of_length_le (by simp; omega)]
theorem map_range_get (m : List (List Int)) : (List.range m.length).map (fun i => m.getD i []) = m := by
  apply List.ext_getElem?
  intro i
  rw [List.getElem?_map]
  by_cases h : i < m.length
  · rw [List.getElem?_range h, List.getElem?_eq_getElem h]
    show some (m.getD i []) = _
    rw [List.getD_eq_getElem?_getD, List.getElem?_eq_getElem h]
    rfl
  · rw [List.getElem?_eq_none (by simpa using h), List.getElem?_eq_none (by omega)]
    rfl
theorem eraseIdx_map' {α β : Type} (f : α → β) : ∀ (l : List α) (k : Nat), (l.map f).eraseIdx k = (l.eraseIdx k).map f
  | [], _ => rfl
  | _ :: _, 0 => rfl
  | a :: l, k + 1 => congrArg (f a :: ·) (eraseIdx_map' f l k)
theorem erase_map_range {β : Type} (m : List (List Int)) (k : Nat) (f : List Int → β) : (m.eraseIdx k).map f = ((List.range m.length).eraseIdx k).map fun i => f (m.getD i []) := by
  have h : m.eraseIdx k = ((List.range m.length).eraseIdx k).map fun i => m.getD i [] := by
    rw [← eraseIdx_map', map_range_get]
  rw [h, List.map_map]
  rfl
theorem paired_map {α β γ : Type} {F : α → γ → Prop} {f : β → γ} : ∀ {l : List α} {is : List β}, Paired (fun i v => F v (f i)) is l → Paired F l (is.map f)
  | _, _, .nil => .nil
  | _, _, .cons r t => .cons r (paired_map t)
def sp_determinant_of (K : PySem.W.Frag) : Sp := fun vs H Q _ => ∃ v m n B, vs = [v] ∧ IRows K H v m ∧ Sq n B m ∧ n ≤ 5 ∧ B ≤ 1200000 ∧ ∀ H', Same H H' → Q (.int (bare n 1 1 m)) H'
theorem ok_determinant_of (T : Top K mg) (hN : base.NoSeer) (hT : P.given.tree = none) : FnOk P w K mg base CX0 42 T.a_determinant_of T.d_determinant_of ["rows"] (sp_determinant_of K) := by
  refine T.F_determinant_of.ok sc_determinant_of (fun vs H Q E h => ?_) (fun cdv A outer s H vs Q E hr h => ?_)
  · obtain ⟨v, m, n, B, rfl, _⟩ := h
    rfl
  · obtain ⟨v, m, n, B, rfl, hm, hsq, hn, hB, q⟩ := h
    have hr1 := hr
    refine ⟨_, (pss_cons (ps_set (i := 1) sc_determinant_of.nd rfl (by first | exact .inl rfl | exact .inr rfl) pe_int)
      (pss_cons (ps_set (i := 2) sc_determinant_of.nd rfl (by first | exact .inl rfl | exact .inr rfl) pe_int)
      (pss_cons (ps_while PassesOwn.never (pt_cmpR op_gt (pe_callB (lenS K rfl) (by rfl) T.z_len (by decide +kernel) (pa_cons (pv 0) pa_nil)) pe_int (nomark _))
      (pss_cons (ps_set (i := 3) sc_determinant_of.nd rfl (by first | exact .inl rfl | exact .inr rfl) (pe_c (cal_first_with_head T hN hT) hr (by decide) (by rfl) (pa_cons (pv 0) pa_nil)))
      (pss_cons (ps_if (pt_cmpR op_isN (pv 3) pe_non (nomark _))
      (pss_one (ps_ret pe_int))
      pss_nil)
      (C8.pss_cut (ps_if (pt_truth (pe_op op_odd (pv 3) pe_int) (by intro _; rfl))
      (pss_one (ps_set (i := 1) sc_determinant_of.nd rfl (by first | exact .inl rfl | exact .inr rfl) (pe_un un_neg (pv 1))))
      pss_nil)
      (pss_cons (ps_set (i := 4) sc_determinant_of.nd rfl (by first | exact .inl rfl | exact .inr rfl) (pe_ix (ixS K rfl) (pv 0) (pv 3) (fun _ _ => rfl)))
      (pss_cons (ps_setLc (i := 0) (own := [("k", 5), ("row", 6)]) (g := (gTup K 2 (gCons (gName 5) (gCons (gName 6) gNil)))) (by rfl) sc_determinant_of.nd rfl rfl (sw_true rfl rfl rfl (by decide +kernel)) (piEnum K rfl (by rfl) T.z_enumerate (pa_cons (pv 0) pa_nil)) ((by show BlkOk ["rows", "sign", "last", "at", "top", "k", "row"] (defScope s_determinant_of) _ _; exact blkOk_by (by decide +kernel))) (fun _ _ _ _ _ => (pg_tup rfl (pgs_cons (pg_name (i := 5) sc_determinant_of.nd rfl (by first | exact .inl rfl | exact .inr rfl)) (pgs_cons (pg_name (i := 6) sc_determinant_of.nd rfl (by first | exact .inl rfl | exact .inr rfl)) pgs_nil)))) (fun _ _ _ _ _ => (pts_one (pt_cmpR op_ne (pv 5) (pv 3) (nomark _)))) (fun _ _ _ _ _ => (pe_c (cal_cleared T hN hT) hr (by decide) (by rfl) (pa_cons (pv 4) (pa_cons (pv 6) (pa_cons (pv 2) pa_nil))))))
      (pss_one (ps_set (i := 2) sc_determinant_of.nd rfl (by first | exact .inl rfl | exact .inr rfl) (pe_ix (ixS K rfl) (pv 4) pe_int (fun _ _ => rfl))))))))))
      (pss_one (ps_ret (pe_op op_mulX (pv 1) (pv 2))))))), ?_⟩
    -- sign = 1; last = 1; while len(rows) > 0
    refine ⟨fun j σ H2 => ∃ v2 m2 s2 l2 B2 y3 y4 y5 y6, σ = [some v2, some (.int s2), some (.int l2), y3, y4, y5, y6] ∧ Same H H2 ∧ IRows K H2 v2 m2 ∧ Sq j B2 m2 ∧ j ≤ 5 ∧ (B2 + 1) * 2 ^ j ≤ 60000000 ∧ l2 ≠ 0 ∧ l2.natAbs < 2 ^ 60000000 ∧ s2.natAbs ≤ 1 ∧ bare j s2 l2 m2 = bare n 1 1 m,
      ⟨n, v, m, 1, 1, B, none, none, none, none, rfl, Same.refl H, hm, hsq, hn, ?_, by decide, ?_, by decide, rfl⟩, ?_⟩
    · have : 2 ^ n ≤ 2 ^ 5 := Nat.pow_le_pow_right (by decide) hn
      have e5 : (2 : Nat) ^ 5 = 32 := rfl
      have := Nat.mul_le_mul (show B + 1 ≤ 1200001 by omega) this
      omega
    · exact Nat.lt_of_lt_of_le (by decide : (1 : Int).natAbs < 2 ^ 1) (Nat.pow_le_pow_right (by decide) (by decide))
    · rintro j σ H2 ⟨v2, m2, s2, l2, B2, y3, y4, y5, y6, rfl, sm, hm2, sq2, hj, hB2, hl0, hlb, hs1, eb⟩
      obtain ⟨a2, ws, rfl, hs2, hp2⟩ := id hm2
      have lw := Paired.length hp2
      have lm := sq2.len
      refine ⟨_, rfl, a2, ws, rfl, hs2, _, _, rfl, rfl, _, rfl, ?_⟩
      cases j with
      | zero =>
        rw [decide_eq_false (by rw [lw, lm]; decide)]
        refine iteF ?_
        -- return sign * last
        refine ⟨_, rfl, _, rfl, _, _, rfl, rfl, ?_, ?_⟩
        · have h1 : s2.natAbs < 2 ^ 1 := by omega
          exact mulx_ok h1 hlb (by decide)
        · show Q (.int (s2 * l2)) H2
          rw [show s2 * l2 = bare n 1 1 m from eb]
          exact q _ sm
      | succ j =>
        rw [decide_eq_true (by rw [lw, lm]; omega)]
        refine iteT ?_
        refine ⟨fun σ' H' => ∃ v2 m2 s2 l2 B2 y3 y4 y5 y6, σ' = [some v2, some (.int s2), some (.int l2), y3, y4, y5, y6] ∧ Same H H' ∧ IRows K H' v2 m2 ∧ Sq j B2 m2 ∧ j ≤ 5 ∧ (B2 + 1) * 2 ^ j ≤ 60000000 ∧ l2 ≠ 0 ∧ l2.natAbs < 2 ^ 60000000 ∧ s2.natAbs ≤ 1 ∧ bare j s2 l2 m2 = bare n 1 1 m, fun σ' H' h => ⟨j, Nat.lt_succ_self _, h⟩, ?_⟩
        -- at = first_with_head(rows)
        refine ⟨_, rfl, _, m2, rfl, hm2, by omega, fun r hr e => ?_, fun H3 s3 => ?_⟩
        · have := sq2.row r hr
          rw [e] at this
          cases this
        have eb' : bare (j + 1) s2 l2 m2 = match firstHead m2 0 with
            | none => 0
            | some k => bare j (if k % 2 = 1 then -s2 else s2) ((m2.getD k []).headD 0) ((m2.eraseIdx k).map fun r => clr (m2.getD k []) r l2) := rfl
        rw [eb'] at eb
        cases ef : firstHead m2 0 with
        | none =>
          rw [ef] at eb
          refine ⟨_, rfl, rfl, _, rfl, ?_⟩
          rw [show decide (optV none = V.non) = true from decide_eq_true rfl]
          refine iteT ?_
          show Q (.int 0) H3
          rw [show (0 : Int) = bare n 1 1 m from eb]
          exact q _ (sm.trans s3)
        | some k =>
          rw [ef] at eb
          obtain ⟨_, hk, hh⟩ := firstHead_some ef
          rw [Nat.zero_add, lm] at hk
          rw [Nat.sub_zero] at hh
          have hk' : k < m2.length := by omega
          have eg : m2[k]? = some (m2.getD k []) := by rw [List.getD_eq_getElem?_getD, List.getElem?_eq_getElem hk']; rfl
          have hmk : m2.getD k [] ∈ m2 := List.mem_of_getElem? eg
          refine ⟨_, rfl, rfl, _, rfl, ?_⟩
          rw [show decide (optV (some k) = V.non) = false from decide_eq_false fun z => by cases z]
          refine iteF ?_
          -- if at & 1: sign = -sign
          refine ⟨fun σ' H' => H' = H3 ∧ σ' = [some (.ref a2), some (.int (if k % 2 = 1 then -s2 else s2)), some (.int l2), some (.int k), y4, y5, y6], ?_, ?_⟩
          · refine ⟨_, rfl, k, rfl, rfl, _, rfl, ?_⟩
            by_cases hk2 : k % 2 = 1
            · rw [show (((k % 2 : Nat) : Int) != 0) = true by rw [hk2]; rfl]
              refine iteT ?_
              refine ⟨_, rfl, _, rfl, rfl, ?_⟩
              rw [if_pos hk2]
              rfl
            · rw [show (((k % 2 : Nat) : Int) != 0) = false by rw [show k % 2 = 0 by omega]; rfl]
              refine iteF ?_
              refine ⟨rfl, ?_⟩
              rw [if_neg hk2]
              rfl
          · rintro σ' H' ⟨rfl, rfl⟩
            have hs3 := hs2.same s3
            have hm3 := hm2.same s3
            obtain ⟨_, ws3, e3, _, hp3⟩ := id hm3
            -- top = rows[at]
            obtain ⟨vt, et, hvt⟩ := Paired.getR (Paired.swap (L2.Paired.mapP hp2 fun _ _ => IRow.same s3)) eg
            refine ⟨_, rfl, _, rfl, ?_⟩
            refine rIx_seq hs3 (atI_nat (j := k) et) ?_
            -- rows = [cleared(top, row, last) for k, row in enumerate(rows) if k != at]
            refine ⟨_, rfl, a2, ws, rfl, hs3, fun J G W hG D hD => ?_⟩
            refine lc_gen W hD (by omega) (fun H4 s4 => hG H4 fun b _ o => s4 b o) (fun i => decide (i ≠ k)) (fun i v H4 => ∃ p, v = .ref p ∧ p ≠ D ∧ H4 p = some (.lst ((clr (m2.getD k []) (m2.getD i []) l2).map V.int))) ?_ ?_ ?_
            · rintro i v H4 H5 acc _ off ⟨p, rfl, hp, e⟩
              exact ⟨p, rfl, hp, off p _ hp e⟩
            · rintro i x H4 H4' acc Ko Kn hi s4 eD ⟨U, x1, x2, rfl, nU, rfl, e1, e2⟩ kk kn
              cases e1
              have sU : Same H4 (upd H4 U (.tup [.int (i : Nat), x2])) := same_upd nU
              obtain ⟨r, er, hr2⟩ := Paired.getR (L2.Paired.mapP hp2 fun _ _ => IRow.same (s3.trans (s4.trans sU))) e2
              have egr : m2.getD i [] = r := by rw [List.getD_eq_getElem?_getD, er]; rfl
              refine g_pair nU ⟨rfl, ?_⟩
              refine ⟨_, rfl, _, rfl, rfl, _, rfl, ?_⟩
              by_cases hik : i = k
              · subst hik
                rw [decide_eq_true rfl]
                refine iteF ?_
                exact kn (by simp) _ sU
              · have hik' : ¬ ((i : Int) = (k : Int)) := by omega
                rw [decide_eq_false fun z => hik' (V.int.inj z)]
                refine iteT ?_
                have hrm : r ∈ m2 := List.mem_of_getElem? er
                refine ⟨_, rfl, _, rfl, _, rfl, vt, x2, m2.getD k [], r, l2, B2, rfl, hvt.same (s4.trans sU), hr2, ?_, ?_, ?_, hl0, sq2.bits _ hmk, sq2.bits _ hrm, ?_, fun H5 p s5 np ep => ?_⟩
                · rw [sq2.row _ hmk, sq2.row _ hrm]
                · rw [sq2.row _ hmk]
                  exact Nat.succ_pos _
                · rw [sq2.row _ hmk]
                  omega
                · have : 1 ≤ 2 ^ (j + 1) := Nat.one_le_two_pow
                  have := Nat.mul_le_mul (Nat.le_refl (B2 + 1)) this
                  omega
                · refine kk (by simpa using hik) _ H5 (sU.trans s5) ⟨p, rfl, ?_, ?_⟩
                  · rintro rfl
                    rw [sU _ _ eD] at np
                    cases np
                  · rw [egr]
                    exact ep
            · intro H4 l s4 eD hpl
              rw [filter_ne_range] at hpl
              have hnew : IRows K H4 (.ref D) ((m2.eraseIdx k).map fun r => clr (m2.getD k []) r l2) := by
                refine ⟨D, l, rfl, .inl (.inl (.inl eD)), ?_⟩
                rw [erase_map_range, ← lw]
                refine paired_map (f := fun i => clr (m2.getD k []) (m2.getD i []) l2) (L2.Paired.mapP hpl fun i v h => ?_)
                obtain ⟨p, rfl, _, e⟩ := h
                exact ⟨p, rfl, .inl (.inl (.inl e))⟩
              -- last = top[0]
              have et0 : ∃ at_, vt = .ref at_ ∧ Gm.Seq K H4 at_ ((m2.getD k []).map V.int) := by
                obtain ⟨q1, q2, q3⟩ := hvt.same s4
                exact ⟨q1, q2, q3⟩
              obtain ⟨at_, rfl, hat⟩ := et0
              refine ⟨_, rfl, ?_⟩
              refine rIx_seq hat (v := .int ((m2.getD k []).headD 0)) ?_ ?_
              · cases ez : m2.getD k [] with
                | nil =>
                  have := sq2.row _ hmk
                  rw [ez] at this
                  cases this
                | cons z r' => exact atI_nat (j := 0) rfl
              · refine ⟨_, _, _, _, 2 * B2 + 1, _, _, _, _, rfl, sm.trans (s3.trans s4), hnew, Sq.next sq2 hk l2, by omega, ?_, hh, ?_, ?_, eb⟩
                · have e2 : (2 * B2 + 1 + 1) * 2 ^ j = (B2 + 1) * 2 ^ (j + 1) := by
                    rw [Nat.pow_succ, show 2 * B2 + 1 + 1 = (B2 + 1) * 2 by omega, Nat.mul_assoc, Nat.mul_comm 2 (2 ^ j)]
                  omega
                · have hb := sq2.bits _ hmk
                  have hB60 : B2 ≤ 60000000 := by
                    have : 1 ≤ 2 ^ (j + 1) := Nat.one_le_two_pow
                    have := Nat.mul_le_mul (Nat.le_refl (B2 + 1)) this
                    omega
                  refine Nat.lt_of_lt_of_le ?_ (Nat.pow_le_pow_right (by decide) hB60)
                  cases ez : m2.getD k [] with
                  | nil =>
                    have := sq2.row _ hmk
                    rw [ez] at this
                    cases this
                  | cons z r' =>
                    rw [ez] at hb
                    exact hb z (List.mem_cons_self ..)
                · by_cases hk2 : k % 2 = 1
                  · rw [if_pos hk2]
                    omega
                  · rw [if_neg hk2]
                    exact hs1
theorem cal_determinant_of (T : Top K mg) (hN : base.NoSeer) (hT : P.given.tree = none) : Cal P w K mg base 42 "determinant_of" (sp_determinant_of K) [] := ⟨⟨_, _, _, [], ok_determinant_of T hN hT, T.g_determinant_of, T.F_determinant_of.kp, T.b_determinant_of, .nil⟩⟩

end
end K03
namespace K03
open PySem PySem.Spec PyProof.Rows L2 Gm
open C8 (Cal Met Mak pe_c pe_mt pe_mt0 pe_mk)
section
variable {P : Program} {w : World} {K : PySem.W.Frag} {mg : Str → Option Value} {base : Heap}
/-! ### grids -/
theorem rw_ne : ¬ (("rows" : Str) = "width") := by decide +kernel
def flds (t : V) (w : Nat) : List (Str × V) := putF "width" (.int w) (putF "rows" t [])
theorem flds_rows (t : V) (w : Nat) : (flds t w).lookup ("rows" : Str) = some t := by
  unfold flds
  rw [lookup_putF, if_neg rw_ne, lookup_putF, if_pos rfl]
theorem flds_width (t : V) (w : Nat) : (flds t w).lookup ("width" : Str) = some (.int w) := by
  unfold flds
  rw [lookup_putF, if_pos rfl]
theorem flds_no (t : V) (w : Nat) {m : Str} (h1 : ¬ m = "width") (h2 : ¬ m = "rows") : (flds t w).lookup m = none := by
  unfold flds
  rw [lookup_putF, if_neg h1, lookup_putF, if_neg h2]
  all_goals rfl
/-- a Grid with the rows m, of width w -/
structure IsGrid (K : PySem.W.Frag) (C : Addr) (H : Hp) (v : V) (m : List (List Int)) (w : Nat) : Prop where
  ob : ∃ p dx t, v = .ref p ∧ H p = some (.ins C dx (flds t w)) ∧ TRows K H t m
  wd : ∀ r ∈ m, r.length = w
theorem IsGrid.same {K : PySem.W.Frag} {C : Addr} {H H' : Hp} {v : V} {m : List (List Int)} {w : Nat} (e : Same H H') (h : IsGrid K C H v m w) : IsGrid K C H' v m w :=
  let ⟨p, dx, t, ev, ho, ht⟩ := h.ob
  ⟨⟨p, dx, t, ev, e _ _ ho, ht.same e⟩, h.wd⟩
/-! ### checked_rows -/
theorem seq_ty {K : PySem.W.Frag} {H : Hp} {a : Addr} {xs : List V} (h : Gm.Seq K H a xs) : ∃ n, (n = "list" ∨ n = "tuple") ∧ TyX K H (.ref a) (.type n) := by
  rcases h with h | h
  · refine ⟨"list", .inl rfl, ?_⟩
    rcases h with (h | ⟨o, h⟩) | ⟨o, its, n, h, c, _⟩
    · exact .base (.lst h)
    · exact .base (.frz h)
    · exact .kList h c
  · refine ⟨"tuple", .inr rfl, ?_⟩
    rcases h with (h | ⟨o, h⟩) | ⟨o, its, n, h, c, _⟩
    · exact .base (.tup h)
    · exact .fTuple h
    · exact .kTuple h c
theorem kit_lt {K : PySem.W.Frag} {n : String} (h : n = "list" ∨ n = "tuple") : PySem.W.kitAny K (.type n) [.type "list", .type "tuple"] = some true := by
  rcases h with rfl | rfl
  · exact kitAny_cons (b := true) (kit_ty (by decide +kernel)) (fun e => by cases e) fun _ => rfl
  · exact kitAny_cons (b := false) (kit_ty (by decide +kernel)) (fun _ => kitAny_cons (b := true) (kit_ty (by decide +kernel)) (fun e => by cases e) fun _ => rfl) fun e => by cases e
def sp_checked_rows (K : PySem.W.Frag) : Sp := fun vs H Q _ => ∃ v m, vs = [v] ∧ IRows K H v m ∧ m.length ≤ 1000 ∧ (∀ r ∈ m, r.length ≤ 1000) ∧ ∀ v' H', Same H H' → TRows K H' v' m → Q v' H'
theorem ok_checked_rows (T : Top K mg) (hN : base.NoSeer) (hT : P.given.tree = none) : FnOk P w K mg base CX0 2 T.a_checked_rows T.d_checked_rows ["rows"] (sp_checked_rows K) := by
  refine T.F_checked_rows.ok sc_checked_rows (fun vs H Q E h => ?_) (fun cdv A outer s H vs Q E hr h => ?_)
  · obtain ⟨v, m, rfl, _⟩ := h
    rfl
  · obtain ⟨v, m, rfl, hm, hl, hw, q⟩ := h
    obtain ⟨a, ws, rfl, hs, hp⟩ := id hm
    have lw := Paired.length hp
    refine ⟨_, (pss_cons (ps_if (pt_not (pt_val (pe_callB (isiTK K rfl) (by rfl) T.z_isinstance (by decide +kernel) (pa_cons (pv 0) (pa_cons (pe_tup (pa_cons (pe_bltn (v := .ty "list") (by rfl) T.z_list (by decide +kernel) rfl) (pa_cons (pe_bltn (v := .ty "tuple") (by rfl) T.z_tuple (by decide +kernel) rfl) pa_nil))) pa_nil)))))
      (pss_one ps_never)
      pss_nil)
      (pss_cons (ps_for PassesOwn.never rfl (piS K rfl (pv 0)) (pg_name (i := 1) sc_checked_rows.nd rfl (by first | exact .inl rfl | exact .inr rfl))
      (pss_cons (ps_if (pt_not (pt_val (pe_callB (isiTK K rfl) (by rfl) T.z_isinstance (by decide +kernel) (pa_cons (pv 1) (pa_cons (pe_tup (pa_cons (pe_bltn (v := .ty "list") (by rfl) T.z_list (by decide +kernel) rfl) (pa_cons (pe_bltn (v := .ty "tuple") (by rfl) T.z_tuple (by decide +kernel) rfl) pa_nil))) pa_nil)))))
      (pss_one ps_never)
      pss_nil)
      (pss_one (ps_if (pt_not (pt_val (pe_callB (allK K rfl rfl) (by rfl) T.z_all (by decide +kernel) (pa_cons (pe_lc (own := [("item", 2)]) (g := (gName 2)) (by rfl) sc_checked_rows.nd (piS K rfl (pv 1)) ((by show BlkOk ["rows", "row", "item"] (defScope s_checked_rows) _ _; exact blkOk_by (by decide +kernel))) (fun _ _ _ _ _ => (pg_name (i := 2) sc_checked_rows.nd rfl (by first | exact .inl rfl | exact .inr rfl))) (fun _ _ _ _ _ => pts_nil) (fun _ _ _ _ _ => (pe_c (cal_is_integer T hN hT) hr (by decide) (by rfl) (pa_cons (pv 2) pa_nil)))) pa_nil))))
      (pss_one ps_never)
      pss_nil))))
      (pss_one (ps_ret (pe_callTy (tupK K rfl) (by rfl) T.z_tuple (by decide +kernel) (pa_cons (pe_lc (own := [("row", 1)]) (g := (gName 1)) (by rfl) sc_checked_rows.nd (piS K rfl (pv 0)) ((by show BlkOk ["rows", "row", "item"] (defScope s_checked_rows) _ _; exact blkOk_by (by decide +kernel))) (fun _ _ _ _ _ => (pg_name (i := 1) sc_checked_rows.nd rfl (by first | exact .inl rfl | exact .inr rfl))) (fun _ _ _ _ _ => pts_nil) (fun _ _ _ _ _ => (pe_callTy (tupK K rfl) (by rfl) T.z_tuple (by decide +kernel) (pa_cons (pv 1) pa_nil)))) pa_nil)))))), ?_⟩
    -- if not isinstance(rows, (list, tuple))
    refine ⟨_, rfl, by show 2 ≤ sizeLine; decide, fun p np => ?_⟩
    have s1 : Same H (upd H p (.tup [.ty "list", .ty "tuple"])) := same_upd np
    obtain ⟨n, hn, ty⟩ := seq_ty (hs.same s1)
    refine ⟨.ref a, p, [.ty "list", .ty "tuple"], _, [.type "list", .type "tuple"], true, rfl, upd_same, .cons (.ty _) (.cons (.ty _) .nil), ty, kit_lt hn, true, rfl, ?_⟩
    refine iteF ?_
    -- for row in rows
    refine ⟨_, rfl, a, ws, rfl, hs.same s1, fun J G W hG => ?_⟩
    generalize hH1 : upd H p (.tup [.ty "list", .ty "tuple"]) = H1 at s1 hG
    refine for_it W (fun i σ H2 => ∃ y1 y2, σ = [some (.ref a), y1, y2] ∧ Same H1 H2) ⟨none, none, rfl, Same.refl _⟩ (fun i σ H2 _ ⟨_, _, _, s2⟩ => hG _ fun b _ o => s2 b o) ?_ ?_
    · rintro i x σ H2 H2' hi ⟨y1, y2, rfl, s2⟩ ⟨rfl, ex⟩
      obtain ⟨r, er, b, rfl, hb⟩ := Paired.getR hp ex
      have hrm : r ∈ m := List.mem_of_getElem? er
      -- if not isinstance(row, (list, tuple))
      refine ⟨_, rfl, by show 2 ≤ sizeLine; decide, fun p2 np2 => ?_⟩
      have s3 : Same H2' (upd H2' p2 (.tup [.ty "list", .ty "tuple"])) := same_upd np2
      have hb3 := hb.same (s1.trans (s2.trans s3))
      obtain ⟨n2, hn2, ty2⟩ := seq_ty hb3
      refine ⟨.ref b, p2, [.ty "list", .ty "tuple"], _, [.type "list", .type "tuple"], true, rfl, upd_same, .cons (.ty _) (.cons (.ty _) .nil), ty2, kit_lt hn2, true, rfl, ?_⟩
      refine iteF ?_
      -- if not all([is_integer(item) for item in row])
      refine ⟨_, rfl, b, _, rfl, hb3, fun J2 G2 W2 hG2 D hD => ?_⟩
      refine lc_all W2 hD (by rw [List.length_map]; exact hw _ hrm) (fun H4 s4 => hG2 H4 fun b _ o => s4 b o) (fun _ v _ => v = .bl true) (fun _ _ _ _ _ _ _ h => h) ?_ gm_name ?_
      · rintro j y H4 H4' acc Ko hj s4 eD ⟨rfl, ey⟩ k
        obtain ⟨z, ez, rfl⟩ := ints_get ey
        refine ⟨rfl, ?_⟩
        exact ⟨_, rfl, z, rfl, k _ _ (Same.refl _) rfl⟩
      · intro H4 l s4 eD hl2
        refine ⟨D, List.replicate l.length true, rfl, .inl (.inl (by rw [← paired_true hl2]; exact eD)), true, by rw [all_true], ?_⟩
        refine iteF ?_
        exact ⟨_, _, rfl, s2.trans (s3.trans s4)⟩
    · rintro σ H2 ⟨y1, y2, rfl, s2⟩
      have sm := s1.trans s2
      -- return tuple([tuple(row) for row in rows])
      refine ⟨_, rfl, a, ws, rfl, hs.same sm, fun J2 G2 W2 hG2 D hD => ?_⟩
      refine lc_all W2 hD (by omega) (fun H4 s4 => hG2 H4 fun b _ o => s4 b o) (fun i v H4 => ∃ r, m[i]? = some r ∧ TRow K H4 v r) (fun i v H4 H5 acc e o ⟨r, er, h⟩ => ⟨r, er, TRow.off e o h⟩) ?_ gm_name ?_
      · rintro i x H4 H4' acc Ko hi s4 eD ⟨rfl, ex⟩ k
        obtain ⟨r, er, b, rfl, hb⟩ := Paired.getR hp ex
        refine ⟨rfl, ?_⟩
        refine ⟨_, rfl, b, r.map V.int, rfl, ?_⟩
        rcases hb.same (sm.trans s4) with hb' | hb'
        · refine .inl ⟨hb', fun t nt => ?_⟩
          exact k _ _ (same_upd nt) ⟨r, er, t, rfl, .inl (.inl upd_same)⟩
        · refine .inr ⟨hb', ?_⟩
          exact k _ _ (Same.refl _) ⟨r, er, b, rfl, hb'⟩
      · intro H4 l s4 eD hpl
        refine ⟨D, l, rfl, .inl ⟨.inl (.inl eD), fun t nt => ?_⟩⟩
        refine q _ _ (sm.trans (s4.trans (same_upd nt))) ⟨t, l, rfl, .inl (.inl upd_same), ?_⟩
        exact L2.Paired.mapP (paired_at (m := m) (by omega) hpl) fun _ _ => TRow.same (same_upd nt)
theorem cal_checked_rows (T : Top K mg) (hN : base.NoSeer) (hT : P.given.tree = none) : Cal P w K mg base 2 "checked_rows" (sp_checked_rows K) [] := ⟨⟨_, _, _, [], ok_checked_rows T hN hT, T.g_checked_rows, T.F_checked_rows.kp, T.b_checked_rows, .nil⟩⟩
/-! ### checked_width -/
def sp_checked_width (K : PySem.W.Frag) : Sp := fun vs H Q _ => ∃ (v : V) (m : List (List Int)) (w : Nat), vs = [v, .int w] ∧ TRows K H v m ∧ m.length ≤ 1000 ∧ (∀ r ∈ m, r.length = w) ∧ ∀ H', Same H H' → Q (.int w) H'
theorem ok_checked_width (T : Top K mg) (hN : base.NoSeer) (hT : P.given.tree = none) : FnOk P w K mg base CX0 2 T.a_checked_width T.d_checked_width ["rows", "width"] (sp_checked_width K) := by
  refine T.F_checked_width.ok sc_checked_width (fun vs H Q E h => ?_) (fun cdv A outer s H vs Q E hr h => ?_)
  · obtain ⟨v, m, w, rfl, _⟩ := h
    rfl
  · obtain ⟨v, m, w, rfl, hm, hl, hw, q⟩ := h
    obtain ⟨a, ws, rfl, hs, hp⟩ := id hm
    have lw := Paired.length hp
    refine ⟨_, (pss_cons (ps_if (pt_cmpR op_isN (pv 1) pe_non (nomark _))
      (pss_one (ps_set (i := 1) sc_checked_width.nd rfl (by first | exact .inl rfl | exact .inr rfl) (pe_ifExp (pt_cmpR op_gt (pe_callB (lenS K rfl) (by rfl) T.z_len (by decide +kernel) (pa_cons (pv 0) pa_nil)) pe_int (nomark _)) (pe_callB (lenS K rfl) (by rfl) T.z_len (by decide +kernel) (pa_cons (pe_ix (ixT K rfl) (pv 0) pe_int (fun _ _ => rfl)) pa_nil)) pe_int)))
      pss_nil)
      (pss_cons (ps_if (PW.pt (pw_or (pt_not (pt_val (pe_c (cal_is_integer T hN hT) hr (by decide) (by rfl) (pa_cons (pv 1) pa_nil)))) (pw_or1 (pt_cmpR op_lt (pv 1) pe_int (nomark _)))))
      (pss_one ps_never)
      pss_nil)
      (pss_cons (ps_if (pt_not (pt_val (pe_callB (allK K rfl rfl) (by rfl) T.z_all (by decide +kernel) (pa_cons (pe_lc (own := [("row", 2)]) (g := (gName 2)) (by rfl) sc_checked_width.nd (piS K rfl (pv 0)) ((by show BlkOk ["rows", "width", "row"] (defScope s_checked_width) _ _; exact blkOk_by (by decide +kernel))) (fun _ _ _ _ _ => (pg_name (i := 2) sc_checked_width.nd rfl (by first | exact .inl rfl | exact .inr rfl))) (fun _ _ _ _ _ => pts_nil) (fun _ _ _ _ _ => (pe_cmpR op_eq (pe_callB (lenS K rfl) (by rfl) T.z_len (by decide +kernel) (pa_cons (pv 2) pa_nil)) (pv 1) (nomark _)))) pa_nil))))
      (pss_one ps_never)
      pss_nil)
      (pss_one (ps_ret (pv 1)))))), ?_⟩
    -- if width is None
    refine ⟨_, rfl, rfl, _, rfl, ?_⟩
    rw [show decide (V.int (w : Int) = V.non) = false from decide_eq_false fun z => by cases z]
    refine iteF ?_
    -- if not is_integer(width) or width < 0
    refine ⟨_, rfl, _, rfl, true, rfl, iteF ⟨_, rfl, _, _, rfl, rfl, _, rfl, ?_⟩⟩
    rw [decide_eq_false (by omega)]
    refine iteF ?_
    -- if not all([len(row) == width for row in rows])
    refine ⟨_, rfl, a, ws, rfl, .inr hs, fun J2 G2 W2 hG2 D hD => ?_⟩
    refine lc_all W2 hD (by omega) (fun H4 s4 => hG2 H4 fun b _ o => s4 b o) (fun _ v _ => v = .bl true) (fun _ _ _ _ _ _ _ h => h) ?_ gm_name ?_
    · rintro i x H4 H4' acc Ko hi s4 eD ⟨rfl, ex⟩ k
      obtain ⟨r, er, b, rfl, hb⟩ := Paired.getR hp ex
      refine ⟨rfl, ?_⟩
      refine ⟨_, rfl, b, _, rfl, .inr (Same.seqT s4 hb), _, rfl, rfl, ?_⟩
      rw [List.length_map, hw r (List.mem_of_getElem? er), decide_eq_true rfl]
      exact k _ _ (Same.refl _) rfl
    · intro H4 l s4 eD hl2
      refine ⟨D, List.replicate l.length true, rfl, .inl (.inl (by rw [← paired_true hl2]; exact eD)), true, by rw [all_true], ?_⟩
      refine iteF ?_
      exact ⟨_, rfl, q _ s4⟩
theorem cal_checked_width (T : Top K mg) (hN : base.NoSeer) (hT : P.given.tree = none) : Cal P w K mg base 2 "checked_width" (sp_checked_width K) [] := ⟨⟨_, _, _, [], ok_checked_width T hN hT, T.g_checked_width, T.F_checked_width.kp, T.b_checked_width, .nil⟩⟩
/-! ### Grid.__init__ -/
def sp_Grid_init (K : PySem.W.Frag) (C : Addr) : Sp := fun vs H Q _ => ∃ (p dx : Addr) (v : V) (m : List (List Int)) (w : Nat), vs = [.ref p, v, .int w] ∧ H p = some (.ins C dx []) ∧ IRows K H v m ∧ m.length ≤ 1000 ∧ w ≤ 1000 ∧ (∀ r ∈ m, r.length = w) ∧
  ∀ t H', Off p H H' → H' p = some (.ins C dx (flds t w)) → TRows K H' t m → Q .non H'
theorem trows_off {K : PySem.W.Frag} {H H' : Hp} {p C dx : Addr} {fs : List (Str × V)} {t : V} {m : List (List Int)} (e : H p = some (.ins C dx fs)) (o : Off p H H') (h : TRows K H t m) : TRows K H' t m := by
  have f : ∀ {a : Addr} {xs : List V}, SqT K H a xs → SqT K H' a xs := fun {a xs} h => by
    rcases h with (h | ⟨u, h⟩) | h
    · exact .inl (.inl (o _ _ (ne_of h e (by intro z; cases z)) h))
    · exact .inl (.inr ⟨u, o _ _ (ne_of h e (by intro z; cases z)) h⟩)
    · exact .inr h
  obtain ⟨a, vs, rfl, hs, hp⟩ := h
  exact ⟨a, vs, rfl, f hs, L2.Paired.mapP hp fun v r ⟨b, e, h⟩ => ⟨b, e, f h⟩⟩
theorem ok_Grid_init (T : Top K mg) (hN : base.NoSeer) (hT : P.given.tree = none) : FnOk P w K mg base CX0 3 T.a_Grid_init T.d_Grid_init ["self", "rows", "width"] (sp_Grid_init K T.C_Grid) := by
  refine T.F_Grid_init.ok sc_Grid_init (fun vs H Q E h => ?_) (fun cdv A outer s H vs Q E hr h => ?_)
  · obtain ⟨p, dx, v, m, w, rfl, _⟩ := h
    rfl
  · obtain ⟨p, dx, v, m, w, rfl, hp, hm, hl, hw, hrw, q⟩ := h
    refine ⟨_, PSs.nox (pss_cons (ps_fld (pv 0) (pe_c (cal_checked_rows T hN hT) hr (by decide) (by rfl) (pa_cons (pv 1) pa_nil)) rfl)
      (pss_one (ps_fld (pv 0) (pe_c (cal_checked_width T hN hT) hr (by decide) (by rfl) (pa_cons (fldK K rfl (pv 0) rfl) (pa_cons (pv 2) pa_nil))) rfl))), ?_⟩
    refine ⟨_, rfl, v, m, rfl, hm, hl, fun r hr => by rw [hrw r hr]; exact hw, fun t H1 s1 ht => ?_⟩
    have hp1 := s1 _ _ hp
    refine ⟨_, rfl, p, T.C_Grid, dx, [], rfl, hp1, T.cl_Grid, T.n_rows, by show 0 < 1000; decide, ?_⟩
    refine ⟨_, rfl, p, T.C_Grid, dx, _, t, rfl, upd_same, T.cl_Grid, T.n_rows, ?_, ?_⟩
    · rw [lookup_putF, if_pos rfl]
    have ht2 : TRows K (upd H1 p (.ins T.C_Grid dx (putF "rows" t []))) t m := trows_off hp1 Off.upd ht
    refine ⟨_, rfl, t, m, w, rfl, ht2, hl, hrw, fun H2 s2 => ?_⟩
    have hp2 := s2 _ _ upd_same
    refine ⟨_, rfl, p, T.C_Grid, dx, _, rfl, hp2, T.cl_Grid, T.n_width, by show 1 < 1000; decide, ?_⟩
    refine q t _ (fun b o n e => ?_) upd_same (trows_off hp2 Off.upd (ht2.same s2))
    rw [upd_ne n]
    exact s2 _ _ (Off.upd _ _ n (s1 _ _ e))
theorem mak_Grid (T : Top K mg) (hN : base.NoSeer) (hT : P.given.tree = none) : Mak P w K mg base 3 "Grid" T.C_Grid (sp_Grid_init K T.C_Grid) [] := ⟨⟨_, _, _, [], T.mk_Grid, ok_Grid_init T hN hT, T.g_Grid, T.b_Grid_init, .nil⟩⟩
/-- what a call Grid(rows, width) asks and gives -/
theorem make_grid {K : PySem.W.Frag} {C : Addr} {H1 : Hp} {v : V} {m : List (List Int)} {w : Nat} {Q : VK} {E : XK} (hm : IRows K H1 v m) (hl : m.length ≤ 1000) (hw : w ≤ 1000) (hrw : ∀ r ∈ m, r.length = w) (q : ∀ g H', Same H1 H' → IsGrid K C H' g m w → Q g H') :
    ∀ x dx, H1 x = none → H1 dx = none → dx ≠ x → sp_Grid_init K C (.ref x :: ([v, .int w] ++ [])) (upd (upd H1 dx (.own x)) x (.ins C dx [])) (fun v H2 => v = .non ∧ Q (.ref x) H2) E := fun x dx nx nd ne => by
  have s0 : Same H1 (upd (upd H1 dx (.own x)) x (.ins C dx [])) := fun b o e => by
    rw [upd_ne (ne_of_none e nx), upd_ne (ne_of_none e nd)]
    exact e
  refine ⟨x, dx, v, m, w, rfl, upd_same, hm.same s0, hl, hw, hrw, fun t H' o ho ht => ⟨rfl, ?_⟩⟩
  exact q _ _ (fun b u e => o _ _ (ne_of_none e nx) (s0 _ _ e)) ⟨⟨x, dx, t, rfl, ho, ht⟩, hrw⟩

end
end K03
namespace K03
open PySem PySem.Spec PyProof.Rows L2 Gm
open C8 (Cal Met Mak pe_c pe_mt pe_mt0 pe_mk)
section
variable {P : Program} {w : World} {K : PySem.W.Frag} {mg : Str → Option Value} {base : Heap}
/-! ### dot -/
def dotI (xs ys : List Int) : Int := (List.zipWith (· * ·) xs ys).sum
def sp_dot (K : PySem.W.Frag) : Sp := fun vs H Q _ => ∃ v1 v2 xs ys B1 B2, vs = [v1, v2] ∧ TRow K H v1 xs ∧ TRow K H v2 ys ∧ xs.length = ys.length ∧ xs.length ≤ 1000 ∧ Bits B1 xs ∧ Bits B2 ys ∧ B1 + B2 ≤ 134217728 ∧ ∀ H', Same H H' → Q (.int (dotI xs ys)) H'
def sp_Grid_len (K : PySem.W.Frag) (C : Addr) : Sp := fun vs H Q _ => ∃ v m w, vs = [v] ∧ IsGrid K C H v m w ∧ Q (.int m.length) H
theorem ok_Grid_len (T : Top K mg) (hN : base.NoSeer) (hT : P.given.tree = none) : FnOk P w K mg base CX0 1 T.a_Grid_len T.d_Grid_len ["self"] (sp_Grid_len K T.C_Grid) := by
  refine T.F_Grid_len.ok sc_Grid_len (fun vs H Q E h => ?_) (fun cdv A outer s H vs Q E hr h => ?_)
  · obtain ⟨v, m, w, rfl, _⟩ := h
    rfl
  · obtain ⟨v, m, w, rfl, ⟨⟨p, dx, t, rfl, ho, a, ws, rfl, hs, hp⟩, hw⟩, q⟩ := h
    refine ⟨_, (pss_one (ps_ret (pe_callB (lenS K rfl) (by rfl) T.z_len (by decide +kernel) (pa_cons (fldK K rfl (pv 0) rfl) pa_nil)))), ?_⟩
    refine ⟨_, rfl, p, T.C_Grid, dx, _, _, rfl, ho, T.cl_Grid, T.n_rows, flds_rows _ _, a, ws, rfl, .inr hs, ?_⟩
    rw [Paired.length hp]
    exact q
theorem met_Grid_len (T : Top K mg) (hN : base.NoSeer) (hT : P.given.tree = none) : Met P w K mg base 1 T.C_Grid "__len__" (sp_Grid_len K T.C_Grid) [] := ⟨⟨_, _, _, [], T.cl_Grid, T.m_Grid_len, ok_Grid_len T hN hT, T.b_Grid_len, .nil⟩⟩
def sp_Grid_is_square (K : PySem.W.Frag) (C : Addr) : Sp := fun vs H Q _ => ∃ v m w, vs = [v] ∧ IsGrid K C H v m w ∧ Q (.bl (decide (m.length = w))) H
theorem ok_Grid_is_square (T : Top K mg) (hN : base.NoSeer) (hT : P.given.tree = none) : FnOk P w K mg base CX0 1 T.a_Grid_is_square T.d_Grid_is_square ["self"] (sp_Grid_is_square K T.C_Grid) := by
  refine T.F_Grid_is_square.ok sc_Grid_is_square (fun vs H Q E h => ?_) (fun cdv A outer s H vs Q E hr h => ?_)
  · obtain ⟨v, m, w, rfl, _⟩ := h
    rfl
  · obtain ⟨v, m, w, rfl, ⟨⟨p, dx, t, rfl, ho, a, ws, rfl, hs, hp⟩, hw⟩, q⟩ := h
    refine ⟨_, (pss_one (ps_ret (pe_cmpR op_eq (pe_callB (lenS K rfl) (by rfl) T.z_len (by decide +kernel) (pa_cons (fldK K rfl (pv 0) rfl) pa_nil)) (fldK K rfl (pv 0) rfl) (nomark _)))), ?_⟩
    refine ⟨_, rfl, p, T.C_Grid, dx, _, _, rfl, ho, T.cl_Grid, T.n_rows, flds_rows _ _, a, ws, rfl, .inr hs, _, rfl, p, T.C_Grid, dx, _, _, rfl, ho, T.cl_Grid, T.n_width, flds_width _ _, rfl, ?_⟩
    have e : decide (V.int (ws.length : Int) = V.int (w : Int)) = decide (m.length = w) := by
      rw [Paired.length hp]
      by_cases h : m.length = w
      · rw [decide_eq_true h, decide_eq_true (by rw [h])]
      · rw [decide_eq_false h, decide_eq_false (fun z => h (by have := V.int.inj z; omega))]
    show Q (.bl (decide (V.int (ws.length : Int) = V.int (w : Int)))) H
    rw [e]
    exact q
theorem met_Grid_is_square (T : Top K mg) (hN : base.NoSeer) (hT : P.given.tree = none) : Met P w K mg base 1 T.C_Grid "is_square" (sp_Grid_is_square K T.C_Grid) [] := ⟨⟨_, _, _, [], T.cl_Grid, T.m_Grid_is_square, ok_Grid_is_square T hN hT, T.b_Grid_is_square, .nil⟩⟩
theorem m_is_square (t : V) (w : Nat) : (flds t w).lookup ("is_square" : Str) = none := flds_no t w (by decide +kernel) (by decide +kernel)
theorem m_transposed (t : V) (w : Nat) : (flds t w).lookup ("transposed" : Str) = none := flds_no t w (by decide +kernel) (by decide +kernel)
theorem m_determinant (t : V) (w : Nat) : (flds t w).lookup ("determinant" : Str) = none := flds_no t w (by decide +kernel) (by decide +kernel)
theorem m_adjugate (t : V) (w : Nat) : (flds t w).lookup ("adjugate" : Str) = none := flds_no t w (by decide +kernel) (by decide +kernel)
theorem m_is_unimodular (t : V) (w : Nat) : (flds t w).lookup ("is_unimodular" : Str) = none := flds_no t w (by decide +kernel) (by decide +kernel)
def sp_check_square (K : PySem.W.Frag) (C : Addr) : Sp := fun vs H Q _ => ∃ v m w, vs = [v] ∧ IsGrid K C H v m w ∧ m.length = w ∧ Q .non H
theorem ok_check_square (T : Top K mg) (hN : base.NoSeer) (hT : P.given.tree = none) : FnOk P w K mg base CX0 2 T.a_check_square T.d_check_square ["a"] (sp_check_square K T.C_Grid) := by
  refine T.F_check_square.ok sc_check_square (fun vs H Q E h => ?_) (fun cdv A outer s H vs Q E hr h => ?_)
  · obtain ⟨v, m, w, rfl, _⟩ := h
    rfl
  · obtain ⟨v, m, w, rfl, G, hw, q⟩ := h
    obtain ⟨⟨p, dx, t, rfl, ho, ht⟩, hrw⟩ := id G
    refine ⟨_, (pss_one (ps_if (pt_not (pt_val (pe_mt0 (met_Grid_is_square T hN hT) hr (by decide) (pv 0))))
      (pss_one ps_never)
      pss_nil)), ?_⟩
    refine ⟨_, rfl, p, dx, _, rfl, ho, m_is_square _ _, .ref p, m, w, rfl, G, _, rfl, ?_⟩
    rw [decide_eq_true hw]
    exact iteF q
theorem cal_check_square (T : Top K mg) (hN : base.NoSeer) (hT : P.given.tree = none) : Cal P w K mg base 2 "check_square" (sp_check_square K T.C_Grid) [] := ⟨⟨_, _, _, [], ok_check_square T hN hT, T.g_check_square, T.F_check_square.kp, T.b_check_square, .nil⟩⟩
def sp_Grid_determinant (K : PySem.W.Frag) (C : Addr) : Sp := fun vs H Q _ => ∃ v m n B, vs = [v] ∧ IsGrid K C H v m n ∧ Sq n B m ∧ n ≤ 5 ∧ B ≤ 1200000 ∧ ∀ H', Same H H' → Q (.int (bare n 1 1 m)) H'
theorem ok_Grid_determinant (T : Top K mg) (hN : base.NoSeer) (hT : P.given.tree = none) : FnOk P w K mg base CX0 43 T.a_Grid_determinant T.d_Grid_determinant ["self"] (sp_Grid_determinant K T.C_Grid) := by
  refine T.F_Grid_determinant.ok sc_Grid_determinant (fun vs H Q E h => ?_) (fun cdv A outer s H vs Q E hr h => ?_)
  · obtain ⟨v, m, n, B, rfl, _⟩ := h
    rfl
  · obtain ⟨v, m, n, B, rfl, G, sq, hn, hB, q⟩ := h
    obtain ⟨⟨p, dx, t, rfl, ho, ht⟩, hrw⟩ := id G
    refine ⟨_, (pss_cons (ps_expr (pe_c (cal_check_square T hN hT) hr (by decide) (by rfl) (pa_cons (pv 0) pa_nil)))
      (pss_one (ps_ret (pe_c (cal_determinant_of T hN hT) hr (by decide) (by rfl) (pa_cons (fldK K rfl (pv 0) rfl) pa_nil))))), ?_⟩
    refine ⟨_, rfl, .ref p, m, n, rfl, G, sq.len, ?_⟩
    exact ⟨_, rfl, p, T.C_Grid, dx, _, t, rfl, ho, T.cl_Grid, T.n_rows, flds_rows _ _, t, m, n, B, rfl, ht.rows, sq, hn, hB, q⟩
theorem met_Grid_determinant (T : Top K mg) (hN : base.NoSeer) (hT : P.given.tree = none) : Met P w K mg base 43 T.C_Grid "determinant" (sp_Grid_determinant K T.C_Grid) [] := ⟨⟨_, _, _, [], T.cl_Grid, T.m_Grid_determinant, ok_Grid_determinant T hN hT, T.b_Grid_determinant, .nil⟩⟩
def sp_Grid_is_unimodular (K : PySem.W.Frag) (C : Addr) : Sp := fun vs H Q _ => ∃ v m w, vs = [v] ∧ IsGrid K C H v m w ∧ ((m.length ≠ w ∧ ∀ H', Same H H' → Q (.bl false) H') ∨ ∃ B, Sq w B m ∧ w ≤ 5 ∧ B ≤ 1200000 ∧ ∀ H', Same H H' → Q (.bl (decide ((bare w 1 1 m).natAbs = 1))) H')
theorem ok_Grid_is_unimodular (T : Top K mg) (hN : base.NoSeer) (hT : P.given.tree = none) : FnOk P w K mg base CX0 44 T.a_Grid_is_unimodular T.d_Grid_is_unimodular ["self"] (sp_Grid_is_unimodular K T.C_Grid) := by
  refine T.F_Grid_is_unimodular.ok sc_Grid_is_unimodular (fun vs H Q E h => ?_) (fun cdv A outer s H vs Q E hr h => ?_)
  · obtain ⟨v, m, w, rfl, _⟩ := h
    rfl
  · obtain ⟨v, m, n, rfl, G, q⟩ := h
    obtain ⟨⟨p, dx, t, rfl, ho, ht⟩, hrw⟩ := id G
    refine ⟨_, (pss_one (ps_ret (pe_and (pe_mt0 (met_Grid_is_square T hN hT) hr (by decide) (pv 0)) (pe_one (pe_cmpR op_eq (pe_callB (call_abs) (by rfl) T.z_abs (by decide +kernel) (pa_cons (pe_mt0 (met_Grid_determinant T hN hT) hr (by decide) (pv 0)) pa_nil)) pe_int (nomark _)))))), ?_⟩
    refine ⟨_, rfl, p, dx, _, rfl, ho, m_is_square _ _, .ref p, m, n, rfl, G, _, rfl, ?_⟩
    rcases q with ⟨hne, q⟩ | ⟨B, sq, hn, hB, q⟩
    · rw [decide_eq_false hne]
      exact iteF (q _ (Same.refl _))
    · rw [decide_eq_true sq.len]
      refine iteT ?_
      refine ⟨_, rfl, p, dx, _, rfl, ho, m_determinant _ _, .ref p, m, n, B, rfl, G, sq, hn, hB, fun H2 s2 => ⟨_, rfl, rfl, ?_⟩⟩
      have e : decide (V.int (if bare n 1 1 m < 0 then -bare n 1 1 m else bare n 1 1 m) = V.int 1) = decide ((bare n 1 1 m).natAbs = 1) := by
        by_cases h : (bare n 1 1 m).natAbs = 1
        · rw [decide_eq_true h]
          refine decide_eq_true (congrArg V.int ?_)
          split <;> omega
        · rw [decide_eq_false h]
          refine decide_eq_false fun z => h ?_
          have := V.int.inj z
          split at this <;> omega
      show Q (.bl (decide (V.int (if bare n 1 1 m < 0 then -bare n 1 1 m else bare n 1 1 m) = V.int 1))) H2
      rw [e]
      exact q _ s2
theorem met_Grid_is_unimodular (T : Top K mg) (hN : base.NoSeer) (hT : P.given.tree = none) : Met P w K mg base 44 T.C_Grid "is_unimodular" (sp_Grid_is_unimodular K T.C_Grid) [] := ⟨⟨_, _, _, [], T.cl_Grid, T.m_Grid_is_unimodular, ok_Grid_is_unimodular T hN hT, T.b_Grid_is_unimodular, .nil⟩⟩

end
end K03
namespace K03
open PySem PySem.Spec PyProof.Rows L2 Gm
open C8 (Cal Met Mak pe_c pe_mt pe_mt0 pe_mk)
section
variable {P : Program} {w : World} {K : PySem.W.Frag} {mg : Str → Option Value} {base : Heap}
/-! ### determinants while an exception is handled -/
theorem okH_first_with_head (T : Top K mg) (hN : base.NoSeer) (hT : P.given.tree = none) : L2H.FnH P w K mg base CX0 1 T.a_first_with_head T.d_first_with_head ["rows"] (sp_first_with_head K) := by
  refine okHot T.F_first_with_head sc_first_with_head (fun vs H Q E h => ?_) (fun cdv A outer s H vs Q E pq hpq hr h => ?_)
  · obtain ⟨v, m, rfl, _⟩ := h
    rfl
  · obtain ⟨v, m, rfl, ⟨a, vs, rfl, hs, hp⟩, hl, hne, q⟩ := h
    refine ⟨_, (pss_cons (L2H.ps_forH (L2.passes_of rfl) (GmH.hotc hpq) (GmH.piEnumH K rfl (by rfl) T.z_enumerate (pa_cons (pv 0) pa_nil)) (GmH.pg_tupH (GmH.hotc hpq) (pgs_cons (pg_name (i := 1) sc_first_with_head.nd rfl (by first | exact .inl rfl | exact .inr rfl)) (pgs_cons (pg_name (i := 2) sc_first_with_head.nd rfl (by first | exact .inl rfl | exact .inr rfl)) pgs_nil)))
      (pss_one (ps_if (pt_cmpR op_ne (pe_ix (ixS K rfl) (pv 2) pe_int (fun _ _ => rfl)) pe_int (nomark _))
      (pss_one (ps_ret (pv 1)))
      pss_nil)))
      (pss_one (ps_ret pe_non))), ?_⟩
    have lv := Paired.length hp
    refine ⟨_, rfl, a, vs, rfl, hs, fun J G W hG => ?_⟩
    refine for_it W (fun i σ H2 => ∃ y1 y2, σ = [some (.ref a), y1, y2] ∧ Same H H2 ∧ ∀ k, k < i → ∀ r, m[k]? = some r → r.headD 0 = 0) ⟨none, none, rfl, Same.refl H, fun k hk => absurd hk (Nat.not_lt_zero _)⟩ ?_ ?_ ?_
    · rintro i σ H2 hi ⟨y1, y2, rfl, s2, _⟩
      exact hG _ fun b _ o => s2 b o
    · rintro i x σ H2 H2' hi ⟨y1, y2, rfl, s2, hz⟩ ⟨U, x1, x2, rfl, nU, rfl, e1, e2⟩
      cases e1
      obtain ⟨r, er, a2, rfl, hs2⟩ := Paired.getR hp e2
      have hmr : r ∈ m := List.mem_of_getElem? er
      obtain ⟨z, r', rfl⟩ : ∃ z r', r = z :: r' := by
        cases r with
        | nil => exact absurd rfl (hne _ hmr)
        | cons z r' => exact ⟨z, r', rfl⟩
      have sU : Same H2 (upd H2 U (.tup [.int (i : Nat), .ref a2])) := same_upd nU
      refine g_pair nU ?_
      have hs3 := hs2.same (s2.trans sU)
      refine ⟨_, rfl, ?_⟩
      have at0 : atI ((z :: r').map V.int) 0 = some (.int z) := atI_nat (j := 0) rfl
      refine rIx_seq hs3 at0 ?_
      refine ⟨rfl, _, rfl, ?_⟩
      by_cases hz0 : z = 0
      · subst hz0
        refine iteNS rfl ?_
        refine ⟨_, _, rfl, s2.trans sU, fun k hk r'' e => ?_⟩
        by_cases hki : k = i
        · subst hki
          rw [er] at e
          cases e
          rfl
        · exact hz k (by omega) r'' e
      · rw [show decide (V.int z = V.int 0) = false from decide_eq_false fun e => hz0 (V.int.inj e)]
        refine iteT ?_
        refine ⟨_, rfl, ?_⟩
        have e := firstHead_step m i 0 (z :: r') er hz
        rw [if_pos (show (z :: r').headD 0 ≠ 0 from hz0), Nat.zero_add] at e
        rw [e] at q
        exact q _ (s2.trans sU)
    · rintro σ H2 ⟨y1, y2, rfl, s2, hz⟩
      have e : firstHead m 0 = none := firstHead_none fun r hr => by
        obtain ⟨k, hk⟩ := List.getElem?_of_mem hr
        refine hz k ?_ r hk
        rw [lv]
        exact (List.getElem?_eq_some_iff.mp hk).1
      rw [e] at q
      exact q _ s2
theorem okH_cleared (T : Top K mg) (hN : base.NoSeer) (hT : P.given.tree = none) : L2H.FnH P w K mg base CX0 41 T.a_cleared T.d_cleared ["top", "row", "last"] (sp_cleared K) := by
  refine okHot T.F_cleared sc_cleared (fun vs H Q E h => ?_) (fun cdv A outer s H vs Q E pq hpq hr h => ?_)
  · obtain ⟨v1, v2, ts, rs, l, B, rfl, _⟩ := h
    rfl
  · obtain ⟨v1, v2, ts, rs, l, B, rfl, ⟨a, rfl, ht⟩, ⟨b, rfl, hr'⟩, hl, h0, hl2, hl0, bt, br, hB, q⟩ := h
    refine ⟨_, (pss_one (ps_ret (GmH.pe_lcH (own := [("k", 3)]) (g := (gName 3)) (GmH.hotc hpq) sc_cleared.nd (GmH.pi_range2H (by rfl) T.z_range (pa_cons pe_int (pa_cons (pe_callB (lenS K rfl) (by rfl) T.z_len (by decide +kernel) (pa_cons (pv 0) pa_nil)) pa_nil))) ((by show BlkOk ["top", "row", "last", "k"] (defScope s_cleared) _ _; exact blkOk_by (by decide +kernel))) (fun _ _ _ _ _ hcB => (pg_name (i := 3) sc_cleared.nd rfl (by first | exact .inl rfl | exact .inr rfl))) (fun _ _ _ _ _ hcB => pts_nil) (fun _ _ _ _ _ hcB => (pe_op (op_fdivQ hN rfl rfl rfl rfl rfl hT (GmH.room100H hr (by decide))) (pe_op op_sub (pe_op op_mulX (pe_ix (ixS K rfl) (pv 0) pe_int (fun _ _ => rfl)) (pe_ix (ixS K rfl) (pv 1) (pv 3) (fun _ _ => rfl))) (pe_op op_mulX (pe_ix (ixS K rfl) (pv 1) pe_int (fun _ _ => rfl)) (pe_ix (ixS K rfl) (pv 0) (pv 3) (fun _ _ => rfl)))) (pv 2)))))), ?_⟩
    refine ⟨_, rfl, a, _, rfl, ht, 1, _, rfl, ⟨by decide, by decide, by rw [List.length_map]; omega, by rw [List.length_map]; omega⟩, fun D hD => ?_⟩
    refine lc_all walk_range hD (by rw [List.length_map]; omega) (fun _ _ => trivial) (fun i v _ => ∃ x y, ts[i + 1]? = some x ∧ rs[i + 1]? = some y ∧ v = .int ((ts.headD 0 * y - rs.headD 0 * x).fdiv l)) (fun _ _ _ _ _ _ _ h => h) ?_ gm_name ?_
    · rintro i x H2 H2' acc Ko hi s2 eD ⟨rfl, rfl⟩ k
      refine ⟨rfl, ?_⟩
      have hi' : i + 1 < ts.length := by
        rw [List.length_map] at hi
        omega
      have hi2 : i + 1 < rs.length := by omega
      have e0 : atI (ts.map V.int) 0 = some (.int (ts.headD 0)) := by
        cases ts with
        | nil => exact absurd h0 (by simp)
        | cons t ts => exact atI_nat (j := 0) rfl
      have f0 : atI (rs.map V.int) 0 = some (.int (rs.headD 0)) := by
        cases rs with
        | nil => rw [List.length_nil] at hi2; omega
        | cons t ts => exact atI_nat (j := 0) rfl
      have e1 : atI (ts.map V.int) (1 + (i : Nat)) = some (.int ts[i + 1]) := at_of (j := i + 1) (by omega) (ints_at (List.getElem?_eq_getElem hi'))
      have f1 : atI (rs.map V.int) (1 + (i : Nat)) = some (.int rs[i + 1]) := at_of (j := i + 1) (by omega) (ints_at (List.getElem?_eq_getElem hi2))
      have bt0 : (ts.headD 0).natAbs < 2 ^ B := by
        cases ts with
        | nil => exact absurd h0 (by simp)
        | cons t ts => exact bt t (List.mem_cons_self ..)
      have br0 : (rs.headD 0).natAbs < 2 ^ B := by
        cases rs with
        | nil => rw [List.length_nil] at hi2; omega
        | cons t ts => exact br t (List.mem_cons_self ..)
      refine ⟨_, rfl, ?_⟩
      refine rIx_seq (ht.same s2) e0 ?_
      refine ⟨_, rfl, _, rfl, ?_⟩
      refine rIx_seq (hr'.same s2) f1 ?_
      refine ⟨_, _, rfl, rfl, mulx_ok bt0 (br.at (List.getElem?_eq_getElem hi2)) (by omega), ?_⟩
      refine ⟨_, rfl, ?_⟩
      refine rIx_seq (hr'.same s2) f0 ?_
      refine ⟨_, rfl, _, rfl, ?_⟩
      refine rIx_seq (ht.same s2) e1 ?_
      refine ⟨_, _, rfl, rfl, mulx_ok br0 (bt.at (List.getElem?_eq_getElem hi')) (by omega), ?_⟩
      refine ⟨_, _, rfl, rfl, ?_⟩
      refine ⟨_, rfl, _, l, rfl, rfl, hl0, ?_⟩
      exact k _ _ (Same.refl _) ⟨_, _, List.getElem?_eq_getElem hi', List.getElem?_eq_getElem hi2, rfl⟩
    · intro H2 lst s2 eD hp
      have el : lst = (clr ts rs l).map V.int := by
        apply List.ext_getElem?
        intro i
        have ln := Paired.length hp
        rw [List.length_range, List.length_map] at ln
        have lc := clr_len (l := l) hl
        by_cases hi : i < lst.length
        · obtain ⟨j, ej, x, y, ex, ey, ev⟩ := Paired.getL hp (List.getElem?_eq_getElem hi)
          have hj : j = i := by
            have := List.getElem?_range (n := ((ts.length : Int) - 1).toNat) (i := i) (by omega)
            rw [List.length_map] at ej
            rw [this] at ej
            exact (Option.some.inj ej).symm
          subst hj
          rw [List.getElem?_eq_getElem hi, ev, List.getElem?_map, clr_get ex ey]
          rfl
        · rw [List.getElem?_eq_none (by omega), List.getElem?_eq_none (by rw [List.length_map]; omega)]
      rw [el] at eD
      exact q H2 D s2 hD eD
theorem okH_determinant_of (T : Top K mg) (hN : base.NoSeer) (hT : P.given.tree = none) : L2H.FnH P w K mg base CX0 42 T.a_determinant_of T.d_determinant_of ["rows"] (sp_determinant_of K) := by
  refine okHot T.F_determinant_of sc_determinant_of (fun vs H Q E h => ?_) (fun cdv A outer s H vs Q E pq hpq hr h => ?_)
  · obtain ⟨v, m, n, B, rfl, _⟩ := h
    rfl
  · obtain ⟨v, m, n, B, rfl, hm, hsq, hn, hB, q⟩ := h
    have hr1 := hr
    refine ⟨_, (pss_cons (ps_set (i := 1) sc_determinant_of.nd rfl (by first | exact .inl rfl | exact .inr rfl) pe_int)
      (pss_cons (ps_set (i := 2) sc_determinant_of.nd rfl (by first | exact .inl rfl | exact .inr rfl) pe_int)
      (pss_cons (ps_while (L2.passes_of rfl) (pt_cmpR op_gt (pe_callB (lenS K rfl) (by rfl) T.z_len (by decide +kernel) (pa_cons (pv 0) pa_nil)) pe_int (nomark _))
      (pss_cons (ps_set (i := 3) sc_determinant_of.nd rfl (by first | exact .inl rfl | exact .inr rfl) (GmH.pe_cH (okH_first_with_head T hN hT) (hr.mono (by decide)) (GmH.hotc hpq) (by rfl) T.g_first_with_head T.F_first_with_head.kp T.b_first_with_head (pa_cons (pv 0) pa_nil)))
      (pss_cons (ps_if (pt_cmpR op_isN (pv 3) pe_non (nomark _))
      (pss_one (ps_ret pe_int))
      pss_nil)
      (C8.pss_cut (ps_if (pt_truth (pe_op op_odd (pv 3) pe_int) (by intro _; rfl))
      (pss_one (ps_set (i := 1) sc_determinant_of.nd rfl (by first | exact .inl rfl | exact .inr rfl) (pe_un un_neg (pv 1))))
      pss_nil)
      (pss_cons (ps_set (i := 4) sc_determinant_of.nd rfl (by first | exact .inl rfl | exact .inr rfl) (pe_ix (ixS K rfl) (pv 0) (pv 3) (fun _ _ => rfl)))
      (pss_cons (GmH.ps_setLcH (i := 0) (own := [("k", 5), ("row", 6)]) (g := (gTup K 2 (gCons (gName 5) (gCons (gName 6) gNil)))) (GmH.hotc hpq) sc_determinant_of.nd rfl rfl (sw_true rfl rfl rfl (by decide +kernel)) (GmH.piEnumH K rfl (by rfl) T.z_enumerate (pa_cons (pv 0) pa_nil)) ((by show BlkOk ["rows", "sign", "last", "at", "top", "k", "row"] (defScope s_determinant_of) _ _; exact blkOk_by (by decide +kernel))) (fun _ _ _ _ _ hcB => (GmH.pg_tupH hcB (pgs_cons (pg_name (i := 5) sc_determinant_of.nd rfl (by first | exact .inl rfl | exact .inr rfl)) (pgs_cons (pg_name (i := 6) sc_determinant_of.nd rfl (by first | exact .inl rfl | exact .inr rfl)) pgs_nil)))) (fun _ _ _ _ _ hcB => (pts_one (pt_cmpR op_ne (pv 5) (pv 3) (nomark _)))) (fun _ _ _ _ _ hcB => (GmH.pe_cH (okH_cleared T hN hT) (hr.mono (by decide)) hcB (by rfl) T.g_cleared T.F_cleared.kp T.b_cleared (pa_cons (pv 4) (pa_cons (pv 6) (pa_cons (pv 2) pa_nil))))))
      (pss_one (ps_set (i := 2) sc_determinant_of.nd rfl (by first | exact .inl rfl | exact .inr rfl) (pe_ix (ixS K rfl) (pv 4) pe_int (fun _ _ => rfl))))))))))
      (pss_one (ps_ret (pe_op op_mulX (pv 1) (pv 2))))))), ?_⟩
    -- sign = 1; last = 1; while len(rows) > 0
    refine ⟨fun j σ H2 => ∃ v2 m2 s2 l2 B2 y3 y4 y5 y6, σ = [some v2, some (.int s2), some (.int l2), y3, y4, y5, y6] ∧ Same H H2 ∧ IRows K H2 v2 m2 ∧ Sq j B2 m2 ∧ j ≤ 5 ∧ (B2 + 1) * 2 ^ j ≤ 60000000 ∧ l2 ≠ 0 ∧ l2.natAbs < 2 ^ 60000000 ∧ s2.natAbs ≤ 1 ∧ bare j s2 l2 m2 = bare n 1 1 m,
      ⟨n, v, m, 1, 1, B, none, none, none, none, rfl, Same.refl H, hm, hsq, hn, ?_, by decide, ?_, by decide, rfl⟩, ?_⟩
    · have : 2 ^ n ≤ 2 ^ 5 := Nat.pow_le_pow_right (by decide) hn
      have e5 : (2 : Nat) ^ 5 = 32 := rfl
      have := Nat.mul_le_mul (show B + 1 ≤ 1200001 by omega) this
      omega
    · exact Nat.lt_of_lt_of_le (by decide : (1 : Int).natAbs < 2 ^ 1) (Nat.pow_le_pow_right (by decide) (by decide))
    · rintro j σ H2 ⟨v2, m2, s2, l2, B2, y3, y4, y5, y6, rfl, sm, hm2, sq2, hj, hB2, hl0, hlb, hs1, eb⟩
      obtain ⟨a2, ws, rfl, hs2, hp2⟩ := id hm2
      have lw := Paired.length hp2
      have lm := sq2.len
      refine ⟨_, rfl, a2, ws, rfl, hs2, _, _, rfl, rfl, _, rfl, ?_⟩
      cases j with
      | zero =>
        rw [decide_eq_false (by rw [lw, lm]; decide)]
        refine iteF ?_
        -- return sign * last
        refine ⟨_, rfl, _, rfl, _, _, rfl, rfl, ?_, ?_⟩
        · have h1 : s2.natAbs < 2 ^ 1 := by omega
          exact mulx_ok h1 hlb (by decide)
        · show Q (.int (s2 * l2)) H2
          rw [show s2 * l2 = bare n 1 1 m from eb]
          exact q _ sm
      | succ j =>
        rw [decide_eq_true (by rw [lw, lm]; omega)]
        refine iteT ?_
        refine ⟨fun σ' H' => ∃ v2 m2 s2 l2 B2 y3 y4 y5 y6, σ' = [some v2, some (.int s2), some (.int l2), y3, y4, y5, y6] ∧ Same H H' ∧ IRows K H' v2 m2 ∧ Sq j B2 m2 ∧ j ≤ 5 ∧ (B2 + 1) * 2 ^ j ≤ 60000000 ∧ l2 ≠ 0 ∧ l2.natAbs < 2 ^ 60000000 ∧ s2.natAbs ≤ 1 ∧ bare j s2 l2 m2 = bare n 1 1 m, fun σ' H' h => ⟨j, Nat.lt_succ_self _, h⟩, ?_⟩
        -- at = first_with_head(rows)
        refine ⟨_, rfl, _, m2, rfl, hm2, by omega, fun r hr e => ?_, fun H3 s3 => ?_⟩
        · have := sq2.row r hr
          rw [e] at this
          cases this
        have eb' : bare (j + 1) s2 l2 m2 = match firstHead m2 0 with
            | none => 0
            | some k => bare j (if k % 2 = 1 then -s2 else s2) ((m2.getD k []).headD 0) ((m2.eraseIdx k).map fun r => clr (m2.getD k []) r l2) := rfl
        rw [eb'] at eb
        cases ef : firstHead m2 0 with
        | none =>
          rw [ef] at eb
          refine ⟨_, rfl, rfl, _, rfl, ?_⟩
          rw [show decide (optV none = V.non) = true from decide_eq_true rfl]
          refine iteT ?_
          show Q (.int 0) H3
          rw [show (0 : Int) = bare n 1 1 m from eb]
          exact q _ (sm.trans s3)
        | some k =>
          rw [ef] at eb
          obtain ⟨_, hk, hh⟩ := firstHead_some ef
          rw [Nat.zero_add, lm] at hk
          rw [Nat.sub_zero] at hh
          have hk' : k < m2.length := by omega
          have eg : m2[k]? = some (m2.getD k []) := by rw [List.getD_eq_getElem?_getD, List.getElem?_eq_getElem hk']; rfl
          have hmk : m2.getD k [] ∈ m2 := List.mem_of_getElem? eg
          refine ⟨_, rfl, rfl, _, rfl, ?_⟩
          rw [show decide (optV (some k) = V.non) = false from decide_eq_false fun z => by cases z]
          refine iteF ?_
          -- if at & 1: sign = -sign
          refine ⟨fun σ' H' => H' = H3 ∧ σ' = [some (.ref a2), some (.int (if k % 2 = 1 then -s2 else s2)), some (.int l2), some (.int k), y4, y5, y6], ?_, ?_⟩
          · refine ⟨_, rfl, k, rfl, rfl, _, rfl, ?_⟩
            by_cases hk2 : k % 2 = 1
            · rw [show (((k % 2 : Nat) : Int) != 0) = true by rw [hk2]; rfl]
              refine iteT ?_
              refine ⟨_, rfl, _, rfl, rfl, ?_⟩
              rw [if_pos hk2]
              rfl
            · rw [show (((k % 2 : Nat) : Int) != 0) = false by rw [show k % 2 = 0 by omega]; rfl]
              refine iteF ?_
              refine ⟨rfl, ?_⟩
              rw [if_neg hk2]
              rfl
          · rintro σ' H' ⟨rfl, rfl⟩
            have hs3 := hs2.same s3
            have hm3 := hm2.same s3
            obtain ⟨_, ws3, e3, _, hp3⟩ := id hm3
            -- top = rows[at]
            obtain ⟨vt, et, hvt⟩ := Paired.getR (Paired.swap (L2.Paired.mapP hp2 fun _ _ => IRow.same s3)) eg
            refine ⟨_, rfl, _, rfl, ?_⟩
            refine rIx_seq hs3 (atI_nat (j := k) et) ?_
            -- rows = [cleared(top, row, last) for k, row in enumerate(rows) if k != at]
            refine ⟨_, rfl, a2, ws, rfl, hs3, fun J G W hG D hD => ?_⟩
            refine lc_gen W hD (by omega) (fun H4 s4 => hG H4 fun b _ o => s4 b o) (fun i => decide (i ≠ k)) (fun i v H4 => ∃ p, v = .ref p ∧ p ≠ D ∧ H4 p = some (.lst ((clr (m2.getD k []) (m2.getD i []) l2).map V.int))) ?_ ?_ ?_
            · rintro i v H4 H5 acc _ off ⟨p, rfl, hp, e⟩
              exact ⟨p, rfl, hp, off p _ hp e⟩
            · rintro i x H4 H4' acc Ko Kn hi s4 eD ⟨U, x1, x2, rfl, nU, rfl, e1, e2⟩ kk kn
              cases e1
              have sU : Same H4 (upd H4 U (.tup [.int (i : Nat), x2])) := same_upd nU
              obtain ⟨r, er, hr2⟩ := Paired.getR (L2.Paired.mapP hp2 fun _ _ => IRow.same (s3.trans (s4.trans sU))) e2
              have egr : m2.getD i [] = r := by rw [List.getD_eq_getElem?_getD, er]; rfl
              refine g_pair nU ⟨rfl, ?_⟩
              refine ⟨_, rfl, _, rfl, rfl, _, rfl, ?_⟩
              by_cases hik : i = k
              · subst hik
                rw [decide_eq_true rfl]
                refine iteF ?_
                exact kn (by simp) _ sU
              · have hik' : ¬ ((i : Int) = (k : Int)) := by omega
                rw [decide_eq_false fun z => hik' (V.int.inj z)]
                refine iteT ?_
                have hrm : r ∈ m2 := List.mem_of_getElem? er
                refine ⟨_, rfl, _, rfl, _, rfl, vt, x2, m2.getD k [], r, l2, B2, rfl, hvt.same (s4.trans sU), hr2, ?_, ?_, ?_, hl0, sq2.bits _ hmk, sq2.bits _ hrm, ?_, fun H5 p s5 np ep => ?_⟩
                · rw [sq2.row _ hmk, sq2.row _ hrm]
                · rw [sq2.row _ hmk]
                  exact Nat.succ_pos _
                · rw [sq2.row _ hmk]
                  omega
                · have : 1 ≤ 2 ^ (j + 1) := Nat.one_le_two_pow
                  have := Nat.mul_le_mul (Nat.le_refl (B2 + 1)) this
                  omega
                · refine kk (by simpa using hik) _ H5 (sU.trans s5) ⟨p, rfl, ?_, ?_⟩
                  · rintro rfl
                    rw [sU _ _ eD] at np
                    cases np
                  · rw [egr]
                    exact ep
            · intro H4 l s4 eD hpl
              rw [filter_ne_range] at hpl
              have hnew : IRows K H4 (.ref D) ((m2.eraseIdx k).map fun r => clr (m2.getD k []) r l2) := by
                refine ⟨D, l, rfl, .inl (.inl (.inl eD)), ?_⟩
                rw [erase_map_range, ← lw]
                refine paired_map (f := fun i => clr (m2.getD k []) (m2.getD i []) l2) (L2.Paired.mapP hpl fun i v h => ?_)
                obtain ⟨p, rfl, _, e⟩ := h
                exact ⟨p, rfl, .inl (.inl (.inl e))⟩
              -- last = top[0]
              have et0 : ∃ at_, vt = .ref at_ ∧ Gm.Seq K H4 at_ ((m2.getD k []).map V.int) := by
                obtain ⟨q1, q2, q3⟩ := hvt.same s4
                exact ⟨q1, q2, q3⟩
              obtain ⟨at_, rfl, hat⟩ := et0
              refine ⟨_, rfl, ?_⟩
              refine rIx_seq hat (v := .int ((m2.getD k []).headD 0)) ?_ ?_
              · cases ez : m2.getD k [] with
                | nil =>
                  have := sq2.row _ hmk
                  rw [ez] at this
                  cases this
                | cons z r' => exact atI_nat (j := 0) rfl
              · refine ⟨_, _, _, _, 2 * B2 + 1, _, _, _, _, rfl, sm.trans (s3.trans s4), hnew, Sq.next sq2 hk l2, by omega, ?_, hh, ?_, ?_, eb⟩
                · have e2 : (2 * B2 + 1 + 1) * 2 ^ j = (B2 + 1) * 2 ^ (j + 1) := by
                    rw [Nat.pow_succ, show 2 * B2 + 1 + 1 = (B2 + 1) * 2 by omega, Nat.mul_assoc, Nat.mul_comm 2 (2 ^ j)]
                  omega
                · have hb := sq2.bits _ hmk
                  have hB60 : B2 ≤ 60000000 := by
                    have : 1 ≤ 2 ^ (j + 1) := Nat.one_le_two_pow
                    have := Nat.mul_le_mul (Nat.le_refl (B2 + 1)) this
                    omega
                  refine Nat.lt_of_lt_of_le ?_ (Nat.pow_le_pow_right (by decide) hB60)
                  cases ez : m2.getD k [] with
                  | nil =>
                    have := sq2.row _ hmk
                    rw [ez] at this
                    cases this
                  | cons z r' =>
                    rw [ez] at hb
                    exact hb z (List.mem_cons_self ..)
                · by_cases hk2 : k % 2 = 1
                  · rw [if_pos hk2]
                    omega
                  · rw [if_neg hk2]
                    exact hs1
theorem okH_Grid_is_square (T : Top K mg) (hN : base.NoSeer) (hT : P.given.tree = none) : L2H.FnH P w K mg base CX0 1 T.a_Grid_is_square T.d_Grid_is_square ["self"] (sp_Grid_is_square K T.C_Grid) := by
  refine okHot T.F_Grid_is_square sc_Grid_is_square (fun vs H Q E h => ?_) (fun cdv A outer s H vs Q E pq hpq hr h => ?_)
  · obtain ⟨v, m, w, rfl, _⟩ := h
    rfl
  · obtain ⟨v, m, w, rfl, ⟨⟨p, dx, t, rfl, ho, a, ws, rfl, hs, hp⟩, hw⟩, q⟩ := h
    refine ⟨_, (pss_one (ps_ret (pe_cmpR op_eq (pe_callB (lenS K rfl) (by rfl) T.z_len (by decide +kernel) (pa_cons (fldK K rfl (pv 0) rfl) pa_nil)) (fldK K rfl (pv 0) rfl) (nomark _)))), ?_⟩
    refine ⟨_, rfl, p, T.C_Grid, dx, _, _, rfl, ho, T.cl_Grid, T.n_rows, flds_rows _ _, a, ws, rfl, .inr hs, _, rfl, p, T.C_Grid, dx, _, _, rfl, ho, T.cl_Grid, T.n_width, flds_width _ _, rfl, ?_⟩
    have e : decide (V.int (ws.length : Int) = V.int (w : Int)) = decide (m.length = w) := by
      rw [Paired.length hp]
      by_cases h : m.length = w
      · rw [decide_eq_true h, decide_eq_true (by rw [h])]
      · rw [decide_eq_false h, decide_eq_false (fun z => h (by have := V.int.inj z; omega))]
    show Q (.bl (decide (V.int (ws.length : Int) = V.int (w : Int)))) H
    rw [e]
    exact q
theorem okH_check_square (T : Top K mg) (hN : base.NoSeer) (hT : P.given.tree = none) : L2H.FnH P w K mg base CX0 2 T.a_check_square T.d_check_square ["a"] (sp_check_square K T.C_Grid) := by
  refine okHot T.F_check_square sc_check_square (fun vs H Q E h => ?_) (fun cdv A outer s H vs Q E pq hpq hr h => ?_)
  · obtain ⟨v, m, w, rfl, _⟩ := h
    rfl
  · obtain ⟨v, m, w, rfl, G, hw, q⟩ := h
    obtain ⟨⟨p, dx, t, rfl, ho, ht⟩, hrw⟩ := id G
    refine ⟨_, (pss_one (ps_if (pt_not (pt_val (GmH.pe_mt0H (pv 0) T.cl_Grid T.m_Grid_is_square (okH_Grid_is_square T hN hT) (hr.mono (by decide)) (GmH.hotc hpq) T.b_Grid_is_square)))
      (pss_one ps_never)
      pss_nil)), ?_⟩
    refine ⟨_, rfl, p, dx, _, rfl, ho, m_is_square _ _, .ref p, m, w, rfl, G, _, rfl, ?_⟩
    rw [decide_eq_true hw]
    exact iteF q
theorem okH_Grid_determinant (T : Top K mg) (hN : base.NoSeer) (hT : P.given.tree = none) : L2H.FnH P w K mg base CX0 43 T.a_Grid_determinant T.d_Grid_determinant ["self"] (sp_Grid_determinant K T.C_Grid) := by
  refine okHot T.F_Grid_determinant sc_Grid_determinant (fun vs H Q E h => ?_) (fun cdv A outer s H vs Q E pq hpq hr h => ?_)
  · obtain ⟨v, m, n, B, rfl, _⟩ := h
    rfl
  · obtain ⟨v, m, n, B, rfl, G, sq, hn, hB, q⟩ := h
    obtain ⟨⟨p, dx, t, rfl, ho, ht⟩, hrw⟩ := id G
    refine ⟨_, (pss_cons (ps_expr (GmH.pe_cH (okH_check_square T hN hT) (hr.mono (by decide)) (GmH.hotc hpq) (by rfl) T.g_check_square T.F_check_square.kp T.b_check_square (pa_cons (pv 0) pa_nil)))
      (pss_one (ps_ret (GmH.pe_cH (okH_determinant_of T hN hT) (hr.mono (by decide)) (GmH.hotc hpq) (by rfl) T.g_determinant_of T.F_determinant_of.kp T.b_determinant_of (pa_cons (fldK K rfl (pv 0) rfl) pa_nil))))), ?_⟩
    refine ⟨_, rfl, .ref p, m, n, rfl, G, sq.len, ?_⟩
    exact ⟨_, rfl, p, T.C_Grid, dx, _, t, rfl, ho, T.cl_Grid, T.n_rows, flds_rows _ _, t, m, n, B, rfl, ht.rows, sq, hn, hB, q⟩
theorem okH_Grid_is_unimodular (T : Top K mg) (hN : base.NoSeer) (hT : P.given.tree = none) : L2H.FnH P w K mg base CX0 44 T.a_Grid_is_unimodular T.d_Grid_is_unimodular ["self"] (sp_Grid_is_unimodular K T.C_Grid) := by
  refine okHot T.F_Grid_is_unimodular sc_Grid_is_unimodular (fun vs H Q E h => ?_) (fun cdv A outer s H vs Q E pq hpq hr h => ?_)
  · obtain ⟨v, m, w, rfl, _⟩ := h
    rfl
  · obtain ⟨v, m, n, rfl, G, q⟩ := h
    obtain ⟨⟨p, dx, t, rfl, ho, ht⟩, hrw⟩ := id G
    refine ⟨_, (pss_one (ps_ret (pe_and (GmH.pe_mt0H (pv 0) T.cl_Grid T.m_Grid_is_square (okH_Grid_is_square T hN hT) (hr.mono (by decide)) (GmH.hotc hpq) T.b_Grid_is_square) (pe_one (pe_cmpR op_eq (pe_callB (call_abs) (by rfl) T.z_abs (by decide +kernel) (pa_cons (GmH.pe_mt0H (pv 0) T.cl_Grid T.m_Grid_determinant (okH_Grid_determinant T hN hT) (hr.mono (by decide)) (GmH.hotc hpq) T.b_Grid_determinant) pa_nil)) pe_int (nomark _)))))), ?_⟩
    refine ⟨_, rfl, p, dx, _, rfl, ho, m_is_square _ _, .ref p, m, n, rfl, G, _, rfl, ?_⟩
    rcases q with ⟨hne, q⟩ | ⟨B, sq, hn, hB, q⟩
    · rw [decide_eq_false hne]
      exact iteF (q _ (Same.refl _))
    · rw [decide_eq_true sq.len]
      refine iteT ?_
      refine ⟨_, rfl, p, dx, _, rfl, ho, m_determinant _ _, .ref p, m, n, B, rfl, G, sq, hn, hB, fun H2 s2 => ⟨_, rfl, rfl, ?_⟩⟩
      have e : decide (V.int (if bare n 1 1 m < 0 then -bare n 1 1 m else bare n 1 1 m) = V.int 1) = decide ((bare n 1 1 m).natAbs = 1) := by
        by_cases h : (bare n 1 1 m).natAbs = 1
        · rw [decide_eq_true h]
          refine decide_eq_true (congrArg V.int ?_)
          split <;> omega
        · rw [decide_eq_false h]
          refine decide_eq_false fun z => h ?_
          have := V.int.inj z
          split at this <;> omega
      show Q (.bl (decide (V.int (if bare n 1 1 m < 0 then -bare n 1 1 m else bare n 1 1 m) = V.int 1))) H2
      rw [e]
      exact q _ s2

end
end K03
namespace K03
open PySem PySem.Spec PyProof.Rows L2 Gm
open C8 (Cal Met Mak pe_c pe_mt pe_mt0 pe_mk)
section
variable {P : Program} {w : World} {K : PySem.W.Frag} {mg : Str → Option Value} {base : Heap}
/-! ### transposed -/
def transp (m : List (List Int)) (w : Nat) : List (List Int) := (List.range w).map fun k => m.map fun r => r.getD k 0
theorem transp_len (m : List (List Int)) (w : Nat) : (transp m w).length = w := by
  unfold transp
  rw [List.length_map, List.length_range]
theorem transp_row {m : List (List Int)} {w : Nat} : ∀ r ∈ transp m w, r.length = m.length := fun r hr => by
  obtain ⟨k, _, rfl⟩ := List.mem_map.mp hr
  rw [List.length_map]
theorem transp_get {m : List (List Int)} {w k : Nat} (h : k < w) : (transp m w).getD k [] = m.map fun r => r.getD k 0 := by
  unfold transp
  rw [List.getD_eq_getElem?_getD, List.getElem?_map, List.getElem?_range h]
  rfl
def sp_Grid_transposed (K : PySem.W.Frag) (C : Addr) : Sp := fun vs H Q _ => ∃ v m w, vs = [v] ∧ IsGrid K C H v m w ∧ m.length ≤ 1000 ∧ w ≤ 1000 ∧ ∀ g H', Same H H' → IsGrid K C H' g (transp m w) m.length → Q g H'
def mulM (m1 m2 : List (List Int)) (w : Nat) : List (List Int) := m1.map fun r => (transp m2 w).map fun c => dotI r c
theorem mulM_len (m1 m2 : List (List Int)) (w : Nat) : (mulM m1 m2 w).length = m1.length := List.length_map ..
theorem mulM_row {m1 m2 : List (List Int)} {w : Nat} : ∀ r ∈ mulM m1 m2 w, r.length = w := fun r hr => by
  obtain ⟨k, _, rfl⟩ := List.mem_map.mp hr
  rw [List.length_map, transp_len]
theorem transp_bits {m : List (List Int)} {w B : Nat} (hw : ∀ r ∈ m, r.length = w) (hb : ∀ r ∈ m, Bits B r) : ∀ r ∈ transp m w, Bits B r := fun r hr x hx => by
  obtain ⟨k, hk, rfl⟩ := List.mem_map.mp hr
  obtain ⟨r', hr', rfl⟩ := List.mem_map.mp hx
  have hk' : k < r'.length := by rw [hw r' hr']; exact List.mem_range.mp hk
  rw [List.getD_eq_getElem?_getD, List.getElem?_eq_getElem hk']
  exact hb r' hr' _ (List.getElem_mem _)
def sp_Grid_mul (K : PySem.W.Frag) (C : Addr) : Sp := fun vs H Q _ => ∃ v1 m1 w1 v2 m2 w2 B1 B2, vs = [v1, v2] ∧ IsGrid K C H v1 m1 w1 ∧ IsGrid K C H v2 m2 w2 ∧ w1 = m2.length ∧ m1.length ≤ 1000 ∧ m2.length ≤ 1000 ∧ w2 ≤ 1000 ∧
  (∀ r ∈ m1, Bits B1 r) ∧ (∀ r ∈ m2, Bits B2 r) ∧ B1 + B2 ≤ 134217728 ∧ ∀ g H', Same H H' → IsGrid K C H' g (mulM m1 m2 w2) w2 → Q g H'
def cutM (m : List (List Int)) (i j : Nat) : List (List Int) := (m.eraseIdx i).map fun r => r.eraseIdx j
theorem cutM_sq {n B : Nat} {m : List (List Int)} (h : Sq (n + 1) B m) {i j : Nat} (hi : i < n + 1) (hj : j < n + 1) : Sq n B (cutM m i j) := by
  have hi' : i < m.length := by rw [h.len]; exact hi
  refine ⟨?_, fun r hr => ?_, fun r hr => ?_⟩
  · unfold cutM
    rw [List.length_map, List.length_eraseIdx_of_lt hi', h.len]
    rfl
  · obtain ⟨r', hr', rfl⟩ := List.mem_map.mp hr
    have h1 := h.row r' (List.mem_of_mem_eraseIdx hr')
    rw [List.length_eraseIdx_of_lt (by omega), h1]
    rfl
  · obtain ⟨r', hr', rfl⟩ := List.mem_map.mp hr
    exact fun x hx => h.bits r' (List.mem_of_mem_eraseIdx hr') x (List.mem_of_mem_eraseIdx hx)
theorem erase_eq (l : List Int) (j : Nat) : l.take j ++ l.drop (j + 1) = l.eraseIdx j := (List.eraseIdx_eq_take_drop_succ l j).symm
def sp_minor (K : PySem.W.Frag) : Sp := fun vs H Q _ => ∃ (v : V) (m : List (List Int)) (n B i j : Nat), vs = [v, .int i, .int j] ∧ TRows K H v m ∧ Sq (n + 1) B m ∧ n ≤ 5 ∧ i < n + 1 ∧ j < n + 1 ∧ B ≤ 1200000 ∧ ∀ H', Same H H' → Q (.int (bare n 1 1 (cutM m i j))) H'
theorem ok_minor (T : Top K mg) (hN : base.NoSeer) (hT : P.given.tree = none) : FnOk P w K mg base CX0 43 T.a_minor T.d_minor ["rows", "i", "j"] (sp_minor K) := by
  refine T.F_minor.ok sc_minor (fun vs H Q E h => ?_) (fun cdv A outer s H vs Q E hr h => ?_)
  · obtain ⟨v, m, n, B, i, j, rfl, _⟩ := h
    rfl
  · obtain ⟨v, m, n, B, i, j, rfl, ⟨a, ws, rfl, hs, hp⟩, sq, hn, hi, hj, hB, q⟩ := h
    have lw := Paired.length hp
    refine ⟨_, (pss_cons (ps_setLc (i := 3) (own := [("k", 4), ("row", 5)]) (g := (gTup K 2 (gCons (gName 4) (gCons (gName 5) gNil)))) (by rfl) sc_minor.nd rfl rfl (sw_true rfl rfl rfl (by decide +kernel)) (piEnum K rfl (by rfl) T.z_enumerate (pa_cons (pv 0) pa_nil)) ((by show BlkOk ["rows", "i", "j", "kept", "k", "row"] (defScope s_minor) _ _; exact blkOk_by (by decide +kernel))) (fun _ _ _ _ _ => (pg_tup rfl (pgs_cons (pg_name (i := 4) sc_minor.nd rfl (by first | exact .inl rfl | exact .inr rfl)) (pgs_cons (pg_name (i := 5) sc_minor.nd rfl (by first | exact .inl rfl | exact .inr rfl)) pgs_nil)))) (fun _ _ _ _ _ => (pts_one (pt_cmpR op_ne (pv 4) (pv 1) (nomark _)))) (fun _ _ _ _ _ => (pe_op (catK K rfl) (pe_slice (slTK K rfl) (pv 5) po_none (po_some (pv 2))) (pe_slice (slTK K rfl) (pv 5) (po_some (pe_op op_add (pv 2) pe_int)) po_none))))
      (pss_one (ps_ret (pe_c (cal_determinant_of T hN hT) hr (by decide) (by rfl) (pa_cons (pv 3) pa_nil))))), ?_⟩
    refine ⟨_, rfl, a, ws, rfl, .inr hs, fun J G W hG D hD => ?_⟩
    refine lc_gen W hD (by rw [lw, sq.len]; omega) (fun H4 s4 => hG H4 fun b _ o => s4 b o) (fun k => decide (k ≠ i)) (fun k v H4 => TRow K H4 v ((m.getD k []).eraseIdx j)) (fun _ _ _ _ _ e o h => TRow.off e o h) ?_ ?_
    · rintro k x H4 H4' acc Ko Kn hk s4 eD ⟨U, x1, x2, rfl, nU, rfl, e1, e2⟩ kk kn
      cases e1
      have sU : Same H4 (upd H4 U (.tup [.int (k : Nat), x2])) := same_upd nU
      obtain ⟨r, er, b, rfl, hb⟩ := Paired.getR hp e2
      have hb' := Same.seqT (s4.trans sU) hb
      have hrl := sq.row r (List.mem_of_getElem? er)
      refine g_pair nU ⟨rfl, ?_⟩
      refine ⟨_, rfl, _, rfl, rfl, _, rfl, ?_⟩
      by_cases hik : k = i
      · subst hik
        rw [decide_eq_true rfl]
        refine iteF ?_
        exact kn (by simp) _ sU
      · have hik' : ¬ ((k : Int) = (i : Int)) := by omega
        rw [decide_eq_false fun z => hik' (V.int.inj z)]
        refine iteT ?_
        refine ⟨_, rfl, _, rfl, (j : Int), rfl, ?_⟩
        refine slA_take hb' j fun p1 H5 s5 t1 => ?_
        refine ⟨_, rfl, _, rfl, _, _, rfl, rfl, _, rfl, ?_⟩
        rw [show (j : Int) + 1 = ((j + 1 : Nat) : Int) by omega]
        refine (show rSlA K (.ref b) (some ((j + 1 : Nat) : Int)) none H5 (fun y H2 => rCatA K (.ref p1) y H2 Ko) from ?_)
        refine slA_drop (Same.seqT s5 hb') (j + 1) fun p2 H6 s6 t2 => ?_
        refine catA (Same.seqT s6 t1) t2 (by simp only [List.length_take, List.length_drop, List.length_map]; omega) fun p3 H7 s7 t3 => ?_
        refine kk (by simpa using hik) _ _ (sU.trans (s5.trans (s6.trans s7))) ⟨p3, rfl, ?_⟩
        rw [show m.getD k [] = r by rw [List.getD_eq_getElem?_getD, er]; rfl, ← erase_eq, List.map_append, List.map_take, List.map_drop]
        exact t3
    · intro H4 l s4 eD hpl
      rw [filter_ne_range] at hpl
      have hrows : IRows K H4 (.ref D) (cutM m i j) := by
        refine ⟨D, l, rfl, .inl (.inl (.inl eD)), ?_⟩
        unfold cutM
        rw [erase_map_range, ← lw]
        exact L2.Paired.mapP (paired_map (F := TRow K H4) (f := fun k => (m.getD k []).eraseIdx j) hpl) fun _ _ => TRow.row
      exact ⟨_, rfl, .ref D, cutM m i j, n, B, rfl, hrows, cutM_sq sq hi hj, hn, hB, fun H5 s5 => q _ (s4.trans s5)⟩
theorem cal_minor (T : Top K mg) (hN : base.NoSeer) (hT : P.given.tree = none) : Cal P w K mg base 43 "minor" (sp_minor K) [] := ⟨⟨_, _, _, [], ok_minor T hN hT, T.g_minor, T.F_minor.kp, T.b_minor, .nil⟩⟩
def sminor (n : Nat) (m : List (List Int)) (i j : Nat) : Int := if (i + j) % 2 = 1 then -bare n 1 1 (cutM m i j) else bare n 1 1 (cutM m i j)
def sp_signed_minor (K : PySem.W.Frag) : Sp := fun vs H Q _ => ∃ (v : V) (m : List (List Int)) (n B i j : Nat), vs = [v, .int i, .int j] ∧ TRows K H v m ∧ Sq (n + 1) B m ∧ n ≤ 5 ∧ i < n + 1 ∧ j < n + 1 ∧ B ≤ 1200000 ∧ ∀ H', Same H H' → Q (.int (sminor n m i j)) H'
theorem ok_signed_minor (T : Top K mg) (hN : base.NoSeer) (hT : P.given.tree = none) : FnOk P w K mg base CX0 44 T.a_signed_minor T.d_signed_minor ["rows", "i", "j"] (sp_signed_minor K) := by
  refine T.F_signed_minor.ok sc_signed_minor (fun vs H Q E h => ?_) (fun cdv A outer s H vs Q E hr h => ?_)
  · obtain ⟨v, m, n, B, i, j, rfl, _⟩ := h
    rfl
  · obtain ⟨v, m, n, B, i, j, rfl, ht, sq, hn, hi, hj, hB, q⟩ := h
    refine ⟨_, (pss_one (ps_ret (pe_ifExp (pt_truth (pe_op op_odd (pe_op op_add (pv 1) (pv 2)) pe_int) (by intro _; rfl)) (pe_un un_neg (pe_c (cal_minor T hN hT) hr (by decide) (by rfl) (pa_cons (pv 0) (pa_cons (pv 1) (pa_cons (pv 2) pa_nil))))) (pe_c (cal_minor T hN hT) hr (by decide) (by rfl) (pa_cons (pv 0) (pa_cons (pv 1) (pa_cons (pv 2) pa_nil))))))), ?_⟩
    refine ⟨_, rfl, _, rfl, _, _, rfl, rfl, i + j, by rw [show ((i + j : Nat) : Int) = (i : Int) + (j : Int) by omega], rfl, _, rfl, ?_⟩
    unfold sminor at q
    by_cases h2 : (i + j) % 2 = 1
    · rw [if_pos h2] at q
      rw [show ((((i + j) % 2 : Nat) : Int) != 0) = true by rw [h2]; rfl]
      refine iteT ?_
      exact ⟨_, rfl, _, rfl, _, rfl, v, m, n, B, i, j, rfl, ht, sq, hn, hi, hj, hB, fun H2 s2 => ⟨_, rfl, q _ s2⟩⟩
    · rw [if_neg h2] at q
      rw [show ((((i + j) % 2 : Nat) : Int) != 0) = false by rw [show (i + j) % 2 = 0 by omega]; rfl]
      refine iteF ?_
      exact ⟨_, rfl, _, rfl, _, rfl, v, m, n, B, i, j, rfl, ht, sq, hn, hi, hj, hB, q⟩
theorem cal_signed_minor (T : Top K mg) (hN : base.NoSeer) (hT : P.given.tree = none) : Cal P w K mg base 44 "signed_minor" (sp_signed_minor K) [] := ⟨⟨_, _, _, [], ok_signed_minor T hN hT, T.g_signed_minor, T.F_signed_minor.kp, T.b_signed_minor, .nil⟩⟩
/-- the adjugate, n the number of rows less 1 (0 rows: 0 too) -/
def adjM (n : Nat) (m : List (List Int)) : List (List Int) := (List.range m.length).map fun i => (List.range m.length).map fun j => sminor n m j i
theorem adjM_get {n i : Nat} {m : List (List Int)} (h : i < m.length) : (adjM n m).getD i [] = (List.range m.length).map fun j => sminor n m j i := by
  unfold adjM
  rw [List.getD_eq_getElem?_getD, List.getElem?_map, List.getElem?_range h]
  rfl
theorem adjM_len (n : Nat) (m : List (List Int)) : (adjM n m).length = m.length := by
  unfold adjM
  rw [List.length_map, List.length_range]
theorem adjM_row {n : Nat} {m : List (List Int)} : ∀ r ∈ adjM n m, r.length = m.length := fun r hr => by
  obtain ⟨k, _, rfl⟩ := List.mem_map.mp hr
  rw [List.length_map, List.length_range]
def sp_adjugate_of (K : PySem.W.Frag) : Sp := fun vs H Q _ => ∃ (v : V) (m : List (List Int)) (n B : Nat), vs = [v] ∧ TRows K H v m ∧ Sq n B m ∧ n ≤ 5 ∧ B ≤ 1200000 ∧ ∀ v' H', Same H H' → IRows K H' v' (adjM (n - 1) m) → Q v' H'
theorem ok_adjugate_of (T : Top K mg) (hN : base.NoSeer) (hT : P.given.tree = none) : FnOk P w K mg base CX0 45 T.a_adjugate_of T.d_adjugate_of ["rows"] (sp_adjugate_of K) := by
  refine T.F_adjugate_of.ok sc_adjugate_of (fun vs H Q E h => ?_) (fun cdv A outer s H vs Q E hr h => ?_)
  · obtain ⟨v, m, n, B, rfl, _⟩ := h
    rfl
  · obtain ⟨v, m, n, B, rfl, ht, sq, hn, hB, q⟩ := h
    obtain ⟨a, ws, rfl, hs, hp⟩ := id ht
    have lw := Paired.length hp
    refine ⟨_, (pss_cons (ps_set (i := 1) sc_adjugate_of.nd rfl (by first | exact .inl rfl | exact .inr rfl) (pe_callTy (cr_range1) (by rfl) T.z_range (by decide +kernel) (pa_cons (pe_callB (lenS K rfl) (by rfl) T.z_len (by decide +kernel) (pa_cons (pv 0) pa_nil)) pa_nil)))
      (pss_one (ps_ret (pe_lc (own := [("i", 2)]) (g := (gName 2)) (by rfl) sc_adjugate_of.nd (pi_rngv (pv 1)) ((by show BlkOk ["rows", "places", "i", "j"] (defScope s_adjugate_of) _ _; exact blkOk_by (by decide +kernel))) (fun _ _ _ _ _ => (pg_name (i := 2) sc_adjugate_of.nd rfl (by first | exact .inl rfl | exact .inr rfl))) (fun _ _ _ _ _ => pts_nil) (fun _ _ _ _ _ => (pe_lc (own := [("j", 3)]) (g := (gName 3)) (by rfl) sc_adjugate_of.nd (pi_rngv (pv 1)) ((by show BlkOk ["rows", "places", "i", "j"] (relS _ (defScope s_adjugate_of)) _ _; exact blkOk_by (by decide +kernel))) (fun _ _ _ _ _ => (pg_name (i := 3) sc_adjugate_of.nd rfl (by first | exact .inl rfl | exact .inr rfl))) (fun _ _ _ _ _ => pts_nil) (fun _ _ _ _ _ => (pe_c (cal_signed_minor T hN hT) hr (by decide) (by rfl) (pa_cons (pv 0) (pa_cons (pv 3) (pa_cons (pv 2) pa_nil))))))))))), ?_⟩
    refine ⟨_, rfl, a, ws, rfl, .inr hs, _, rfl, fun pr npr => ?_⟩
    have s1 : Same H (upd H pr (.rng 0 (ws.length : Int))) := same_upd npr
    have hlen := sq.len
    refine ⟨_, rfl, pr, _, _, rfl, upd_same, ⟨by decide, by decide, by omega, by omega⟩, fun D hD => ?_⟩
    refine lc_all walk_range hD (by omega) (fun _ _ => trivial) (fun i v H4 => ∃ p, v = V.ref p ∧ p ≠ D ∧ H4 p = some (.lst (((adjM (n - 1) m).getD i []).map V.int))) lists_mono ?_ gm_name ?_
    · rintro i x H4 H4' acc Ko hi s4 eD ⟨rfl, rfl⟩ k
      have hi' : i < m.length := by omega
      refine ⟨rfl, ?_⟩
      refine ⟨_, rfl, pr, _, _, rfl, s4 _ _ upd_same, ⟨by decide, by decide, by omega, by omega⟩, fun D2 hD2 => ?_⟩
      refine lc_all walk_range hD2 (by omega) (fun _ _ => trivial) (fun j v _ => ∃ z, ((adjM (n - 1) m).getD i [])[j]? = some z ∧ v = .int z) (fun _ _ _ _ _ _ _ h => h) ?_ gm_name ?_
      · rintro j y H5 H5' acc2 Ko2 hj s5 eD2 ⟨rfl, rfl⟩ k2
        have hj' : j < m.length := by omega
        refine ⟨rfl, ?_⟩
        refine ⟨_, rfl, _, rfl, _, rfl, .ref a, m, n - 1, B, j, i, ?_, ht.same (s1.trans (s4.trans s5)), by rw [show n - 1 + 1 = n by omega]; exact sq, by omega, by omega, by omega, hB, fun H6 s6 => ?_⟩
        · show [V.ref a, V.int (0 + (j : Int)), V.int (0 + (i : Int))] ++ [] = _
          rw [Int.zero_add, Int.zero_add]
          rfl
        · refine k2 _ _ s6 ⟨_, ?_, rfl⟩
          rw [adjM_get hi', List.getElem?_map, List.getElem?_range hj']
          rfl
      · intro H5 l s5 eD2 hpl
        have el := ints_list (by rw [adjM_get hi', List.length_map, List.length_range]; omega) hpl
        refine k _ _ s5 ⟨D2, rfl, ?_, by rw [← el]; exact eD2⟩
        rintro rfl
        rw [eD] at hD2
        cases hD2
    · intro H4 l s4 eD hpl
      exact q _ _ (s1.trans s4) (lists_rows (K := K) (m := adjM (n - 1) m) (by rw [adjM_len]; omega) eD hpl)
theorem cal_adjugate_of (T : Top K mg) (hN : base.NoSeer) (hT : P.given.tree = none) : Cal P w K mg base 45 "adjugate_of" (sp_adjugate_of K) [] := ⟨⟨_, _, _, [], ok_adjugate_of T hN hT, T.g_adjugate_of, T.F_adjugate_of.kp, T.b_adjugate_of, .nil⟩⟩
def sp_Grid_adjugate (K : PySem.W.Frag) (C : Addr) : Sp := fun vs H Q _ => ∃ v m n B, vs = [v] ∧ IsGrid K C H v m n ∧ Sq n B m ∧ n ≤ 5 ∧ B ≤ 1200000 ∧ ∀ g H', Same H H' → IsGrid K C H' g (adjM (n - 1) m) n → Q g H'
theorem ok_Grid_adjugate (T : Top K mg) (hN : base.NoSeer) (hT : P.given.tree = none) : FnOk P w K mg base CX0 46 T.a_Grid_adjugate T.d_Grid_adjugate ["self"] (sp_Grid_adjugate K T.C_Grid) := by
  refine T.F_Grid_adjugate.ok sc_Grid_adjugate (fun vs H Q E h => ?_) (fun cdv A outer s H vs Q E hr h => ?_)
  · obtain ⟨v, m, n, B, rfl, _⟩ := h
    rfl
  · obtain ⟨v, m, n, B, rfl, G, sq, hn, hB, q⟩ := h
    obtain ⟨⟨p, dx, t, rfl, ho, ht⟩, hrw⟩ := id G
    refine ⟨_, (pss_cons (ps_expr (pe_c (cal_check_square T hN hT) hr (by decide) (by rfl) (pa_cons (pv 0) pa_nil)))
      (pss_one (ps_ret (pe_mk (mak_Grid T hN hT) hr (by decide) (by rfl) (pa_cons (pe_c (cal_adjugate_of T hN hT) hr (by decide) (by rfl) (pa_cons (fldK K rfl (pv 0) rfl) pa_nil)) (pa_cons (fldK K rfl (pv 0) rfl) pa_nil)))))), ?_⟩
    refine ⟨_, rfl, .ref p, m, n, rfl, G, sq.len, ?_⟩
    refine ⟨_, rfl, p, T.C_Grid, dx, _, t, rfl, ho, T.cl_Grid, T.n_rows, flds_rows _ _, t, m, n, B, rfl, ht, sq, hn, hB, fun v' H1 s1 hv' => ?_⟩
    refine ⟨_, rfl, p, T.C_Grid, dx, _, _, rfl, s1 _ _ ho, T.cl_Grid, T.n_width, flds_width _ _, ?_⟩
    exact make_grid hv' (by rw [adjM_len, sq.len]; omega) (by omega) (fun r hr => by rw [adjM_row r hr, sq.len]) fun g H' s' G' => q g H' (s1.trans s') G'
theorem met_Grid_adjugate (T : Top K mg) (hN : base.NoSeer) (hT : P.given.tree = none) : Met P w K mg base 46 T.C_Grid "adjugate" (sp_Grid_adjugate K T.C_Grid) [] := ⟨⟨_, _, _, [], T.cl_Grid, T.m_Grid_adjugate, ok_Grid_adjugate T hN hT, T.b_Grid_adjugate, .nil⟩⟩

end
end K03
namespace K03
open PySem PySem.Spec PyProof.Rows L2 Gm
open C8 (Cal Met Mak pe_c pe_mt pe_mt0 pe_mk)
section
variable {P : Program} {w : World} {K : PySem.W.Frag} {mg : Str → Option Value} {base : Heap}
/-! ### scaled -/
def scaleM (k : Int) (m : List (List Int)) : List (List Int) := m.map fun r => r.map fun x => k * x
theorem scaleM_len (k : Int) (m : List (List Int)) : (scaleM k m).length = m.length := List.length_map ..
theorem scaleM_row {k : Int} {m : List (List Int)} {w : Nat} (h : ∀ r ∈ m, r.length = w) : ∀ r ∈ scaleM k m, r.length = w := fun r hr => by
  obtain ⟨x, hx, rfl⟩ := List.mem_map.mp hr
  rw [List.length_map]
  exact h x hx
def sp_Grid_scaled (K : PySem.W.Frag) (C : Addr) : Sp := fun vs H Q _ => ∃ v m w k Bk B, vs = [v, .int k] ∧ IsGrid K C H v m w ∧ m.length ≤ 1000 ∧ w ≤ 1000 ∧ k.natAbs < 2 ^ Bk ∧ (∀ r ∈ m, Bits B r) ∧ Bk + B ≤ 134217728 ∧ ∀ g H', Same H H' → IsGrid K C H' g (scaleM k m) w → Q g H'
theorem ok_Grid_scaled (T : Top K mg) (hN : base.NoSeer) (hT : P.given.tree = none) : FnOk P w K mg base CX0 5 T.a_Grid_scaled T.d_Grid_scaled ["self", "k"] (sp_Grid_scaled K T.C_Grid) := by
  refine T.F_Grid_scaled.ok sc_Grid_scaled (fun vs H Q E h => ?_) (fun cdv A outer s H vs Q E hr h => ?_)
  · obtain ⟨v, m, w, k, Bk, B, rfl, _⟩ := h
    rfl
  · obtain ⟨v, m, n, c, Bk, B, rfl, G, hl, hw, bk, bm, hB, q⟩ := h
    obtain ⟨⟨p, dx, t, rfl, ho, a, ws, rfl, hs, hp⟩, hrw⟩ := id G
    have lw := Paired.length hp
    refine ⟨_, (pss_one (ps_ret (pe_mk (mak_Grid T hN hT) hr (by decide) (by rfl) (pa_cons (pe_lc (own := [("row", 2)]) (g := (gName 2)) (by rfl) sc_Grid_scaled.nd (piS K rfl (fldK K rfl (pv 0) rfl)) ((by show BlkOk ["self", "k", "row", "item"] (defScope s_Grid_scaled) _ _; exact blkOk_by (by decide +kernel))) (fun _ _ _ _ _ => (pg_name (i := 2) sc_Grid_scaled.nd rfl (by first | exact .inl rfl | exact .inr rfl))) (fun _ _ _ _ _ => pts_nil) (fun _ _ _ _ _ => (pe_lc (own := [("item", 3)]) (g := (gName 3)) (by rfl) sc_Grid_scaled.nd (piS K rfl (pv 2)) ((by show BlkOk ["self", "k", "row", "item"] (relS _ (defScope s_Grid_scaled)) _ _; exact blkOk_by (by decide +kernel))) (fun _ _ _ _ _ => (pg_name (i := 3) sc_Grid_scaled.nd rfl (by first | exact .inl rfl | exact .inr rfl))) (fun _ _ _ _ _ => pts_nil) (fun _ _ _ _ _ => (pe_op op_mulX (pv 1) (pv 3)))))) (pa_cons (fldK K rfl (pv 0) rfl) pa_nil))))), ?_⟩
    refine ⟨_, rfl, p, T.C_Grid, dx, _, _, rfl, ho, T.cl_Grid, T.n_rows, flds_rows _ _, a, ws, rfl, .inr hs, fun J G0 W hG D hD => ?_⟩
    refine lc_all W hD (by omega) (fun H4 s4 => hG H4 fun b _ o => s4 b o) (fun i v H4 => ∃ p, v = V.ref p ∧ p ≠ D ∧ H4 p = some (.lst (((scaleM c m).getD i []).map V.int))) lists_mono ?_ gm_name ?_
    · rintro i x H4 H4' acc Ko hi s4 eD ⟨rfl, ex⟩ k
      obtain ⟨r, er, b, rfl, hb⟩ := Paired.getR hp ex
      have hrm := List.mem_of_getElem? er
      have hrl := hrw r hrm
      have eg : (scaleM c m).getD i [] = r.map fun x => c * x := by
        unfold scaleM
        rw [List.getD_eq_getElem?_getD, List.getElem?_map, er]
        rfl
      refine ⟨rfl, ?_⟩
      refine ⟨_, rfl, b, _, rfl, .inr (Same.seqT s4 hb), fun J2 G2 W2 hG2 D2 hD2 => ?_⟩
      refine lc_all W2 hD2 (by rw [List.length_map]; omega) (fun H5 s5 => hG2 H5 fun b _ o => s5 b o) (fun j v _ => ∃ z, ((scaleM c m).getD i [])[j]? = some z ∧ v = .int z) (fun _ _ _ _ _ _ _ h => h) ?_ gm_name ?_
      · rintro j y H5 H5' acc2 Ko2 hj s5 eD2 ⟨rfl, ey⟩ k2
        obtain ⟨z, ez, rfl⟩ := ints_get ey
        refine ⟨rfl, ?_⟩
        refine ⟨_, rfl, _, rfl, c, z, rfl, rfl, mulx_ok bk ((bm r hrm).at ez) hB, ?_⟩
        refine k2 _ _ (Same.refl _) ⟨c * z, ?_, rfl⟩
        rw [eg, List.getElem?_map, ez]
        rfl
      · intro H5 l s5 eD2 hpl
        have el := ints_list (by rw [eg, List.length_map, List.length_map]) hpl
        refine k _ _ s5 ⟨D2, rfl, ?_, by rw [← el]; exact eD2⟩
        rintro rfl
        rw [eD] at hD2
        cases hD2
    · intro H4 l s4 eD hpl
      have hrows := lists_rows (K := K) (m := scaleM c m) (by rw [scaleM_len]; omega) eD hpl
      refine ⟨_, rfl, p, T.C_Grid, dx, _, _, rfl, s4 _ _ ho, T.cl_Grid, T.n_width, flds_width _ _, ?_⟩
      exact make_grid hrows (by rw [scaleM_len]; exact hl) hw (scaleM_row hrw) fun g H' s' G' => q g H' (s4.trans s') G'
theorem met_Grid_scaled (T : Top K mg) (hN : base.NoSeer) (hT : P.given.tree = none) : Met P w K mg base 5 T.C_Grid "scaled" (sp_Grid_scaled K T.C_Grid) [] := ⟨⟨_, _, _, [], T.cl_Grid, T.m_Grid_scaled, ok_Grid_scaled T hN hT, T.b_Grid_scaled, .nil⟩⟩
theorem m_scaled (t : V) (w : Nat) : (flds t w).lookup ("scaled" : Str) = none := flds_no t w (by decide +kernel) (by decide +kernel)
theorem m_times (t : V) (w : Nat) : (flds t w).lookup ("times" : Str) = none := flds_no t w (by decide +kernel) (by decide +kernel)
theorem m_before (t : V) (w : Nat) : (flds t w).lookup ("before" : Str) = none := flds_no t w (by decide +kernel) (by decide +kernel)
theorem m_stacked (t : V) (w : Nat) : (flds t w).lookup ("stacked" : Str) = none := flds_no t w (by decide +kernel) (by decide +kernel)
/-! ### -a -/
def sp_Grid_neg (K : PySem.W.Frag) (C : Addr) : Sp := fun vs H Q _ => ∃ v m w B, vs = [v] ∧ IsGrid K C H v m w ∧ m.length ≤ 1000 ∧ w ≤ 1000 ∧ (∀ r ∈ m, Bits B r) ∧ B ≤ 1200000 ∧ ∀ g H', Same H H' → IsGrid K C H' g (scaleM (-1) m) w → Q g H'
def timesM (m : List (List Int)) (r : List Int) : List Int := m.map fun o => dotI o r
def sp_Grid_times (K : PySem.W.Frag) (C : Addr) : Sp := fun vs H Q _ => ∃ v m w u r B1 B2, vs = [v, u] ∧ IsGrid K C H v m w ∧ TRow K H u r ∧ r.length = w ∧ m.length ≤ 1000 ∧ w ≤ 1000 ∧ (∀ o ∈ m, Bits B1 o) ∧ Bits B2 r ∧ B1 + B2 ≤ 134217728 ∧ ∀ v' H', Same H H' → TRow K H' v' (timesM m r) → Q v' H'
def sp_Grid_before (K : PySem.W.Frag) (C : Addr) : Sp := fun vs H Q _ => ∃ v m w u r B1 B2, vs = [v, u] ∧ IsGrid K C H v m w ∧ TRow K H u r ∧ r.length = m.length ∧ m.length ≤ 1000 ∧ w ≤ 1000 ∧ (∀ o ∈ m, Bits B1 o) ∧ Bits B2 r ∧ B1 + B2 ≤ 134217728 ∧ ∀ v' H', Same H H' → TRow K H' v' (timesM (transp m w) r) → Q v' H'

end
end K03
namespace K03
open PySem PySem.Spec PyProof.Rows L2 Gm
open C8 (Cal Met Mak pe_c pe_mt pe_mt0 pe_mk)
section
variable {P : Program} {w : World} {K : PySem.W.Frag} {mg : Str → Option Value} {base : Heap}
/-! ### tables as data -/
def pdR (r : List Int) : PyData := .tuple (r.map .int)
def pdM (m : List (List Int)) : PyData := .tuple (m.map pdR)
theorem dp_ints {K : PySem.W.Frag} {H : Hp} : ∀ r : List Int, DpAll K H (r.map V.int) (r.map PyData.int)
  | [] => .nil
  | _ :: r => .cons (.int _) (dp_ints r)
theorem dp_row {K : PySem.W.Frag} {H : Hp} {v : V} {r : List Int} (h : TRow K H v r) : Dp K H v (pdR r) := by
  obtain ⟨a, rfl, hs⟩ := h
  exact .tup hs (dp_ints r)
theorem dp_paired {K : PySem.W.Frag} {H : Hp} : ∀ {vs : List V} {m : List (List Int)}, Paired (TRow K H) vs m → DpAll K H vs (m.map pdR)
  | _, _, .nil => .nil
  | _, _, .cons r t => .cons (dp_row r) (dp_paired t)
theorem dp_rows {K : PySem.W.Frag} {H : Hp} {v : V} {m : List (List Int)} (h : TRows K H v m) : Dp K H v (pdM m) := by
  obtain ⟨a, vs, rfl, hs, hp⟩ := h
  exact .tup hs (dp_paired hp)
theorem lay_ints : ∀ r : List Int, PyData.canLayAll0 (r.map PyData.int) = true
  | [] => by simp [PyData.canLayAll0]
  | _ :: r => by simp [PyData.canLayAll0, PyData.canLay0, lay_ints r]
theorem lay_rows : ∀ m : List (List Int), PyData.canLayAll0 (m.map pdR) = true
  | [] => by simp [PyData.canLayAll0]
  | r :: m => by simp [PyData.canLayAll0, PyData.canLay0, pdR, lay_rows m, lay_ints r]
theorem lay_pdM (m : List (List Int)) : (pdM m).canLay0 = true := by simp [pdM, PyData.canLay0, lay_rows m]
theorem dep_ints : ∀ r : List Int, PyData.depthAll (r.map PyData.int) = 0
  | [] => by simp [PyData.depthAll]
  | _ :: r => by simp [PyData.depthAll, PyData.depth, dep_ints r]
theorem dep_rows : ∀ m : List (List Int), PyData.depthAll (m.map pdR) ≤ 1
  | [] => by simp [PyData.depthAll]
  | r :: m => by
    have := dep_rows m
    simp only [List.map_cons, PyData.depthAll, PyData.depth, pdR, dep_ints r]
    omega
theorem shaped_pdM (m : List (List Int)) : SeqAt.shaped (pdM m) = true := by
  unfold SeqAt.shaped
  rw [Bool.and_eq_true, lay_pdM]
  refine ⟨rfl, decide_eq_true ?_⟩
  have := dep_rows m
  simp only [pdM, PyData.depth]
  omega
/-- equal tables are equal -/
theorem ne_rows {K : PySem.W.Frag} {H : Hp} {v u : V} {m1 m2 : List (List Int)} {Q : VK} (h1 : TRows K H v m1) (h2 : TRows K H u m2) (e : m1 = m2) (q : Q (.bl false) H) : rNeD K v u H Q := by
  subst e
  refine ⟨pdM m1, pdM m1, dp_rows h1, dp_rows h2, shaped_pdM _, shaped_pdM _, ?_⟩
  rw [PySem.SeqAt.eqv_refl _ (lay_pdM m1)]
  exact q

end
end K03
namespace K03
open PySem PySem.Spec PyProof.Rows L2 Gm
open C8 (Cal Met Mak pe_c pe_mt pe_mt0 pe_mk)
section
variable {P : Program} {w : World} {K : PySem.W.Frag} {mg : Str → Option Value} {base : Heap}
theorem row_ty {K : PySem.W.Frag} {H : Hp} {a : Addr} {xs : List V} (h : SqT K H a xs) : TyX K H (.ref a) (.type "tuple") := by
  rcases h with (h | ⟨o, h⟩) | ⟨o, its, n, h, c, _⟩
  · exact .base (.tup h)
  · exact .fTuple h
  · exact .kTuple h c

end
end K03
namespace K03
open PySem PySem.Spec PyProof.Rows L2 Gm
open C8 (Cal Met Mak pe_c pe_mt pe_mt0 pe_mk)
section
variable {P : Program} {w : World} {K : PySem.W.Frag} {mg : Str → Option Value} {base : Heap}
theorem eqv_ints : ∀ r q : List Int, PyData.eqvAll (r.map PyData.int) (q.map PyData.int) = decide (r = q)
  | [], [] => by simp [PyData.eqvAll]
  | [], b :: q => by simp [PyData.eqvAll]
  | a :: r, [] => by simp [PyData.eqvAll]
  | a :: r, b :: q => by
    simp only [List.map_cons, PyData.eqvAll, PyData.eqv, eqv_ints r q]
    by_cases h : a = b
    · subst h
      by_cases h2 : r = q
      · subst h2
        simp
      · simp [h2]
    · simp [h]
theorem eqv_rows : ∀ m l : List (List Int), PyData.eqvAll (m.map pdR) (l.map pdR) = decide (m = l)
  | [], [] => by simp [PyData.eqvAll]
  | [], b :: q => by simp [PyData.eqvAll]
  | a :: r, [] => by simp [PyData.eqvAll]
  | a :: r, b :: q => by
    simp only [List.map_cons, PyData.eqvAll, pdR, PyData.eqv, eqv_ints a b]
    have ih := eqv_rows r q
    rw [ih]
    by_cases h : a = b
    · subst h
      by_cases h2 : r = q
      · subst h2
        simp
      · simp [h2]
    · simp [h]
theorem eqv_pdM (m l : List (List Int)) : PyData.eqv (pdM m) (pdM l) = decide (m = l) := by
  simp only [pdM, PyData.eqv]
  exact eqv_rows m l
theorem eq_rows {K : PySem.W.Frag} {H : Hp} {v u : V} {m1 m2 : List (List Int)} {Q : VK} (h1 : TRows K H v m1) (h2 : TRows K H u m2) (q : Q (.bl (decide (m1 = m2))) H) : rEqD K v u H Q := by
  refine ⟨pdM m1, pdM m2, dp_rows h1, dp_rows h2, shaped_pdM _, shaped_pdM _, ?_⟩
  rw [eqv_pdM]
  exact q
theorem tup_not {K : PySem.W.Frag} {C : Addr} : PySem.W.subIn K (.type "tuple") (.ref C) = some false := by
  have e : fastBuiltinMro "tuple" = some [.type "tuple", .type "object"] := by decide +kernel
  show (fastBuiltinMro "tuple").map (·.contains (.ref C)) = some false
  rw [e] <;> rfl
/-! ### a == b -/
def sp_Grid_eq (K : PySem.W.Frag) (C : Addr) : Sp := fun vs H Q _ => ∃ v m w u m2, vs = [v, u] ∧ IsGrid K C H v m w ∧ ((∃ w2, IsGrid K C H u m2 w2 ∧ Q (.bl (decide (m = m2 ∧ w = w2))) H) ∨ (TRows K H u m2 ∧ Q (.bl false) H))
theorem ok_Grid_eq (T : Top K mg) (hN : base.NoSeer) (hT : P.given.tree = none) : FnOk P w K mg base CX0 1 T.a_Grid_eq T.d_Grid_eq ["self", "other"] (sp_Grid_eq K T.C_Grid) := by
  refine T.F_Grid_eq.ok sc_Grid_eq (fun vs H Q E h => ?_) (fun cdv A outer s H vs Q E hr h => ?_)
  · obtain ⟨v, m, w, u, m2, rfl, _⟩ := h
    rfl
  · obtain ⟨v, m, n, u, m2, rfl, G, q⟩ := h
    obtain ⟨⟨p, dx, t, rfl, ho, ht⟩, hrw⟩ := id G
    refine ⟨_, (pss_one (ps_ret (pe_and (pe_callB (isiK K rfl) (by rfl) T.z_isinstance (by decide +kernel) (pa_cons (pv 1) (pa_cons (pe_glob (by rfl) T.g_Grid (show RelV (.ref T.C_Grid) _ from rfl)) pa_nil))) (pe_and (pe_cmpR (eqDK K rfl hr) (fldK K rfl (pv 0) rfl) (fldK K rfl (pv 1) rfl) (nomark _)) (pe_one (pe_cmpR op_eq (fldK K rfl (pv 0) rfl) (fldK K rfl (pv 1) rfl) (nomark _))))))), ?_⟩
    rcases q with ⟨w2, G2, q⟩ | ⟨hu, q⟩
    · obtain ⟨⟨p2, dx2, t2, rfl, ho2, ht2⟩, hrw2⟩ := id G2
      refine ⟨_, rfl, .ref p2, .ref T.C_Grid, _, _, true, rfl, .own _, .base (.ins ho2 T.cl_Grid T.kc_Grid T.kg_Grid T.kt_Grid T.km_Grid), ?_, true, rfl, ?_⟩
      · unfold PySem.W.kitOne
        rw [if_pos (beq_self_eq_true _)]
      refine iteT ?_
      refine ⟨_, rfl, p, T.C_Grid, dx, _, _, rfl, ho, T.cl_Grid, T.n_rows, flds_rows _ _, _, rfl, p2, T.C_Grid, dx2, _, _, rfl, ho2, T.cl_Grid, T.n_rows, flds_rows _ _, eq_rows ht ht2 ⟨_, rfl, ?_⟩⟩
      by_cases hm : m = m2
      · rw [decide_eq_true hm]
        refine iteT ?_
        refine ⟨_, rfl, p, T.C_Grid, dx, _, _, rfl, ho, T.cl_Grid, T.n_width, flds_width _ _, _, rfl, p2, T.C_Grid, dx2, _, _, rfl, ho2, T.cl_Grid, T.n_width, flds_width _ _, rfl, ?_⟩
        have e : decide (V.int (n : Int) = V.int (w2 : Int)) = decide (m = m2 ∧ n = w2) := by
          by_cases hw : n = w2
          · rw [decide_eq_true (show m = m2 ∧ n = w2 from ⟨hm, hw⟩), decide_eq_true (by rw [hw])]
          · rw [decide_eq_false (fun z : m = m2 ∧ n = w2 => hw z.2), decide_eq_false (fun z => hw (by have := V.int.inj z; omega))]
        show Q (.bl (decide (V.int (n : Int) = V.int (w2 : Int)))) H
        rw [e]
        exact q
      · rw [decide_eq_false hm]
        refine iteF ?_
        rw [decide_eq_false (fun z : m = m2 ∧ n = w2 => hm z.1)] at q
        exact q
    · obtain ⟨a, ws, rfl, hs, hp⟩ := id hu
      refine ⟨_, rfl, .ref a, .ref T.C_Grid, _, _, false, rfl, .own _, row_ty hs, ?_, false, rfl, ?_⟩
      · show (if (Value.type "tuple" == Value.ref T.C_Grid) = true then some true else if ((PySem.W.clsIn K T.C_Grid).isSome && PySem.W.typeIn K (.ref T.C_Grid) == some (.type "type")) = true then PySem.W.subIn K (.type "tuple") (.ref T.C_Grid) else none) = some false
        have e2 : ((PySem.W.clsIn K T.C_Grid).isSome && PySem.W.typeIn K (.ref T.C_Grid) == some (.type "type")) = true := by
          have e := T.ic_Grid
          have e' : (PySem.W.clsIn K T.C_Grid).isSome = true := e
          rw [e', T.ty_Grid] <;> rfl
        rw [if_neg (by simp), if_pos e2]
        exact tup_not
      exact iteF q
/-! ### stacked -/
theorem paired_app {α β : Type} {F : α → β → Prop} : ∀ {xs : List α} {ys : List β} {xs2 : List α} {ys2 : List β}, Paired F xs ys → Paired F xs2 ys2 → Paired F (xs ++ xs2) (ys ++ ys2)
  | _, _, _, _, .nil, h => h
  | _, _, _, _, .cons r t, h => .cons r (paired_app t h)
def sp_Grid_stacked (K : PySem.W.Frag) (C : Addr) : Sp := fun vs H Q _ => ∃ v m w u m2, vs = [v, u] ∧ IsGrid K C H v m w ∧ IsGrid K C H u m2 w ∧ m.length + m2.length ≤ 1000 ∧ w ≤ 1000 ∧ ∀ g H', Same H H' → IsGrid K C H' g (m ++ m2) w → Q g H'

end
end K03
namespace K03
open PySem PySem.Spec PyProof.Rows L2 Gm
open C8 (Cal Met Mak pe_c pe_mt pe_mt0 pe_mk)
section
variable {P : Program} {w : World} {K : PySem.W.Frag} {mg : Str → Option Value} {base : Heap}
theorem bools_list : ∀ {is : List Nat} {l : List V} {f : Nat → Bool}, Paired (fun i v => v = V.bl (f i)) is l → l = (is.map f).map V.bl
  | _, _, _, .nil => rfl
  | _, _, _, .cons r t => by
    rw [r, bools_list t]
    rfl
theorem not_all {f : Nat → Bool} {n i : Nat} (hi : i < n) (h : f i = false) : ((List.range n).map f).all id = false := by
  rw [List.all_eq_false]
  exact ⟨false, List.mem_map.mpr ⟨i, List.mem_range.mpr hi, h⟩, by simp⟩

end
end K03
namespace K03
open PySem PySem.Spec PyProof.Rows L2 Gm
open C8 (Cal Met Mak pe_c pe_mt pe_mt0 pe_mk)
section
variable {P : Program} {w : World} {K : PySem.W.Frag} {mg : Str → Option Value} {base : Heap}
/-! ### the width that isn't told -/
def sp_checked_width_N (K : PySem.W.Frag) : Sp := fun vs H Q _ => ∃ (v : V) (m : List (List Int)) (w : Nat), vs = [v, .non] ∧ TRows K H v m ∧ 0 < m.length ∧ m.length ≤ 1000 ∧ (∀ r ∈ m, r.length = w) ∧ ∀ H', Same H H' → Q (.int w) H'
theorem ok_checked_width_N (T : Top K mg) (hN : base.NoSeer) (hT : P.given.tree = none) : FnOk P w K mg base CX0 2 T.a_checked_width T.d_checked_width ["rows", "width"] (sp_checked_width_N K) := by
  refine T.F_checked_width.ok sc_checked_width (fun vs H Q E h => ?_) (fun cdv A outer s H vs Q E hr h => ?_)
  · obtain ⟨v, m, w, rfl, _⟩ := h
    rfl
  · obtain ⟨v, m, w, rfl, hm, h0, hl, hw, q⟩ := h
    obtain ⟨a, ws, rfl, hs, hp⟩ := id hm
    have lw := Paired.length hp
    obtain ⟨v0, ev0⟩ : ∃ v0, ws[0]? = some v0 := ⟨ws[0]'(by omega), List.getElem?_eq_getElem (by omega)⟩
    obtain ⟨r0, er0, b0, rfl, hb0⟩ := Paired.getR hp ev0
    have hr0 := hw r0 (List.mem_of_getElem? er0)
    refine ⟨_, (pss_cons (ps_if (pt_cmpR op_isN (pv 1) pe_non (nomark _))
      (pss_one (ps_set (i := 1) sc_checked_width.nd rfl (by first | exact .inl rfl | exact .inr rfl) (pe_ifExp (pt_cmpR op_gt (pe_callB (lenS K rfl) (by rfl) T.z_len (by decide +kernel) (pa_cons (pv 0) pa_nil)) pe_int (nomark _)) (pe_callB (lenS K rfl) (by rfl) T.z_len (by decide +kernel) (pa_cons (pe_ix (ixT K rfl) (pv 0) pe_int (fun _ _ => rfl)) pa_nil)) pe_int)))
      pss_nil)
      (pss_cons (ps_if (PW.pt (pw_or (pt_not (pt_val (pe_c (cal_is_integer T hN hT) hr (by decide) (by rfl) (pa_cons (pv 1) pa_nil)))) (pw_or1 (pt_cmpR op_lt (pv 1) pe_int (nomark _)))))
      (pss_one ps_never)
      pss_nil)
      (pss_cons (ps_if (pt_not (pt_val (pe_callB (allK K rfl rfl) (by rfl) T.z_all (by decide +kernel) (pa_cons (pe_lc (own := [("row", 2)]) (g := (gName 2)) (by rfl) sc_checked_width.nd (piS K rfl (pv 0)) ((by show BlkOk ["rows", "width", "row"] (defScope s_checked_width) _ _; exact blkOk_by (by decide +kernel))) (fun _ _ _ _ _ => (pg_name (i := 2) sc_checked_width.nd rfl (by first | exact .inl rfl | exact .inr rfl))) (fun _ _ _ _ _ => pts_nil) (fun _ _ _ _ _ => (pe_cmpR op_eq (pe_callB (lenS K rfl) (by rfl) T.z_len (by decide +kernel) (pa_cons (pv 2) pa_nil)) (pv 1) (nomark _)))) pa_nil))))
      (pss_one ps_never)
      pss_nil)
      (pss_one (ps_ret (pv 1)))))), ?_⟩
    refine ⟨_, rfl, rfl, _, rfl, ?_⟩
    rw [decide_eq_true rfl]
    refine iteT ?_
    refine ⟨_, rfl, a, ws, rfl, .inr hs, _, _, rfl, rfl, _, rfl, ?_⟩
    rw [decide_eq_true (by omega)]
    refine iteT ?_
    refine ⟨_, rfl, a, ws, _, _, rfl, rfl, hs, atI_nat (j := 0) ev0, b0, _, rfl, .inr hb0, ?_⟩
    rw [List.length_map, hr0]
    refine ⟨_, rfl, _, rfl, true, rfl, iteF ⟨_, rfl, _, _, rfl, rfl, _, rfl, ?_⟩⟩
    rw [decide_eq_false (by omega)]
    refine iteF ?_
    refine ⟨_, rfl, a, ws, rfl, .inr hs, fun J2 G2 W2 hG2 D hD => ?_⟩
    refine lc_all W2 hD (by omega) (fun H4 s4 => hG2 H4 fun b _ o => s4 b o) (fun _ v _ => v = .bl true) (fun _ _ _ _ _ _ _ h => h) ?_ gm_name ?_
    · rintro i x H4 H4' acc Ko hi s4 eD ⟨rfl, ex⟩ k
      obtain ⟨r, er, b, rfl, hb⟩ := Paired.getR hp ex
      refine ⟨rfl, ?_⟩
      refine ⟨_, rfl, b, _, rfl, .inr (Same.seqT s4 hb), _, rfl, rfl, ?_⟩
      rw [List.length_map, hw r (List.mem_of_getElem? er), decide_eq_true rfl]
      exact k _ _ (Same.refl _) rfl
    · intro H4 l s4 eD hl2
      refine ⟨D, List.replicate l.length true, rfl, .inl (.inl (by rw [← paired_true hl2]; exact eD)), true, by rw [all_true], ?_⟩
      refine iteF ?_
      exact ⟨_, rfl, q _ s4⟩
theorem cal_checked_width_N (T : Top K mg) (hN : base.NoSeer) (hT : P.given.tree = none) : Cal P w K mg base 2 "checked_width" (sp_checked_width_N K) [] := ⟨⟨_, _, _, [], ok_checked_width_N T hN hT, T.g_checked_width, T.F_checked_width.kp, T.b_checked_width, .nil⟩⟩
def sp_checked_width_NX (K : PySem.W.Frag) (X : Addr) : Sp := fun vs H _ E => ∃ (v : V) (m : List (List Int)) (i : Nat), vs = [v, .non] ∧ TRows K H v m ∧ 0 < m.length ∧ m.length ≤ 1000 ∧ (∃ r0 r, m[0]? = some r0 ∧ m[i]? = some r ∧ r.length ≠ r0.length) ∧ ∀ H', Same H H' → E (.ref X) none H'
theorem ok_checked_width_NX (T : Top K mg) (hN : base.NoSeer) (hT : P.given.tree = none) : FnOk P w K mg base (L2.CX P w) 2 T.a_checked_width T.d_checked_width ["rows", "width"] (sp_checked_width_NX K T.X_Malformed) := by
  refine T.F_checked_width.okX sc_checked_width (fun vs H Q E h => ?_) (fun cdv A outer s H vs Q E hr h => ?_)
  · obtain ⟨v, m, i, rfl, _⟩ := h
    rfl
  · obtain ⟨v, m, i0, rfl, hm, h0, hl, ⟨r0, r1, er0, er1, hne⟩, q⟩ := h
    obtain ⟨a, ws, rfl, hs, hp⟩ := id hm
    have lw := Paired.length hp
    obtain ⟨v0, ev0, b0, rfl, hb0⟩ := Paired.getR (Paired.swap hp) er0
    refine ⟨_, (pss_cons (ps_if (pt_cmpR op_isN (pv 1) pe_non (nomark _))
      (pss_one (ps_set (i := 1) sc_checked_width.nd rfl (by first | exact .inl rfl | exact .inr rfl) (pe_ifExp (pt_cmpR op_gt (pe_callB (lenS K rfl) (by rfl) T.z_len (by decide +kernel) (pa_cons (pv 0) pa_nil)) pe_int (nomark _)) (pe_callB (lenS K rfl) (by rfl) T.z_len (by decide +kernel) (pa_cons (pe_ix (ixT K rfl) (pv 0) pe_int (fun _ _ => rfl)) pa_nil)) pe_int)))
      pss_nil)
      (pss_cons (ps_if (PW.pt (pw_or (pt_not (pt_val (pe_c (cal_is_integer T hN hT) hr (by decide) (by rfl) (pa_cons (pv 1) pa_nil)))) (pw_or1 (pt_cmpR op_lt (pv 1) pe_int (nomark _)))))
      (pss_one ps_never)
      pss_nil)
      (pss_cons (ps_if (pt_not (pt_val (pe_callB (allK K rfl rfl) (by rfl) T.z_all (by decide +kernel) (pa_cons (pe_lc (own := [("row", 2)]) (g := (gName 2)) (by rfl) sc_checked_width.nd (piS K rfl (pv 0)) ((by show BlkOk ["rows", "width", "row"] (defScope s_checked_width) _ _; exact blkOk_by (by decide +kernel))) (fun _ _ _ _ _ => (pg_name (i := 2) sc_checked_width.nd rfl (by first | exact .inl rfl | exact .inr rfl))) (fun _ _ _ _ _ => pts_nil) (fun _ _ _ _ _ => (pe_cmpR op_eq (pe_callB (lenS K rfl) (by rfl) T.z_len (by decide +kernel) (pa_cons (pv 2) pa_nil)) (pv 1) (nomark _)))) pa_nil))))
      (pss_one (ps_raise rfl (takes_of rfl rfl rfl rfl) (pmk_own PySem.F.excBase_ValueError T.xX_Malformed T.gX_Malformed T.kX_Malformed (raises_own T.bX_Malformed T.tX_Malformed) (by exact rfl))))
      pss_nil)
      (pss_one (ps_ret (pv 1)))))), ?_⟩
    refine ⟨_, rfl, rfl, _, rfl, ?_⟩
    rw [decide_eq_true rfl]
    refine iteT ?_
    refine ⟨_, rfl, a, ws, rfl, .inr hs, _, _, rfl, rfl, _, rfl, ?_⟩
    rw [decide_eq_true (by omega)]
    refine iteT ?_
    refine ⟨_, rfl, a, ws, _, _, rfl, rfl, hs, atI_nat (j := 0) ev0, b0, _, rfl, .inr hb0, ?_⟩
    rw [List.length_map]
    refine ⟨_, rfl, _, rfl, true, rfl, iteF ⟨_, rfl, _, _, rfl, rfl, _, rfl, ?_⟩⟩
    rw [decide_eq_false (by omega)]
    refine iteF ?_
    refine ⟨_, rfl, a, ws, rfl, .inr hs, fun J2 G2 W2 hG2 D hD => ?_⟩
    refine lc_all W2 hD (by omega) (fun H4 s4 => hG2 H4 fun b _ o => s4 b o) (fun i v _ => v = .bl (decide ((m.getD i []).length = r0.length))) (fun _ _ _ _ _ _ _ h => h) ?_ gm_name ?_
    · rintro i x H4 H4' acc Ko hi s4 eD ⟨rfl, ex⟩ k
      obtain ⟨r, er, b, rfl, hb⟩ := Paired.getR hp ex
      refine ⟨rfl, ?_⟩
      refine ⟨_, rfl, b, _, rfl, .inr (Same.seqT s4 hb), _, rfl, rfl, ?_⟩
      refine k _ _ (Same.refl _) ?_
      rw [List.getD_eq_getElem?_getD, er, List.length_map]
      show V.bl (decide (V.int (r.length : Int) = V.int (r0.length : Int))) = V.bl (decide (r.length = r0.length))
      refine congrArg V.bl ?_
      by_cases h : r.length = r0.length
      · rw [decide_eq_true h, decide_eq_true (by rw [h])]
      · rw [decide_eq_false h, decide_eq_false (fun z => h (by have := V.int.inj z; omega))]
    · intro H4 l s4 eD hl2
      refine ⟨D, (List.range ws.length).map fun i => decide ((m.getD i []).length = r0.length), rfl, .inl (.inl (by rw [← bools_list hl2]; exact eD)), false, ?_, ?_⟩
      · have hi0 : i0 < m.length := (List.getElem?_eq_some_iff.mp er1).1
        rw [not_all (i := i0) (by omega) (by rw [List.getD_eq_getElem?_getD, er1]; exact decide_eq_false hne)]
      · refine iteT ?_
        exact q _ s4
/-! ### the constructor without a width; that raises -/
def sp_Grid_init_N (K : PySem.W.Frag) (C : Addr) : Sp := fun vs H Q _ => ∃ (p dx : Addr) (v : V) (m : List (List Int)) (w : Nat), vs = [.ref p, v, .non] ∧ H p = some (.ins C dx []) ∧ IRows K H v m ∧ 0 < m.length ∧ m.length ≤ 1000 ∧ w ≤ 1000 ∧ (∀ r ∈ m, r.length = w) ∧
  ∀ t H', Off p H H' → H' p = some (.ins C dx (flds t w)) → TRows K H' t m → Q .non H'
theorem ok_Grid_init_N (T : Top K mg) (hN : base.NoSeer) (hT : P.given.tree = none) : FnOk P w K mg base CX0 3 T.a_Grid_init T.d_Grid_init ["self", "rows", "width"] (sp_Grid_init_N K T.C_Grid) := by
  refine T.F_Grid_init.ok sc_Grid_init (fun vs H Q E h => ?_) (fun cdv A outer s H vs Q E hr h => ?_)
  · obtain ⟨p, dx, v, m, w, rfl, _⟩ := h
    rfl
  · obtain ⟨p, dx, v, m, w, rfl, hp, hm, h0, hl, hw, hrw, q⟩ := h
    refine ⟨_, PSs.nox (pss_cons (ps_fld (pv 0) (pe_c (cal_checked_rows T hN hT) hr (by decide) (by rfl) (pa_cons (pv 1) pa_nil)) rfl)
      (pss_one (ps_fld (pv 0) (pe_c (cal_checked_width_N T hN hT) hr (by decide) (by rfl) (pa_cons (fldK K rfl (pv 0) rfl) (pa_cons (pv 2) pa_nil))) rfl))), ?_⟩
    refine ⟨_, rfl, v, m, rfl, hm, hl, fun r hr => by rw [hrw r hr]; exact hw, fun t H1 s1 ht => ?_⟩
    have hp1 := s1 _ _ hp
    refine ⟨_, rfl, p, T.C_Grid, dx, [], rfl, hp1, T.cl_Grid, T.n_rows, by show 0 < 1000; decide, ?_⟩
    refine ⟨_, rfl, p, T.C_Grid, dx, _, t, rfl, upd_same, T.cl_Grid, T.n_rows, ?_, ?_⟩
    · rw [lookup_putF, if_pos rfl]
    have ht2 : TRows K (upd H1 p (.ins T.C_Grid dx (putF "rows" t []))) t m := trows_off hp1 Off.upd ht
    refine ⟨_, rfl, t, m, w, rfl, ht2, h0, hl, hrw, fun H2 s2 => ?_⟩
    have hp2 := s2 _ _ upd_same
    refine ⟨_, rfl, p, T.C_Grid, dx, _, rfl, hp2, T.cl_Grid, T.n_width, by show 1 < 1000; decide, ?_⟩
    refine q t _ (fun b o n e => ?_) upd_same (trows_off hp2 Off.upd (ht2.same s2))
    rw [upd_ne n]
    exact s2 _ _ (Off.upd _ _ n (s1 _ _ e))

end
end K03
namespace K03
open PySem PySem.Spec PyProof.Rows L2 Gm
open C8 (Cal Met Mak pe_c pe_mt pe_mt0 pe_mk)
section
variable {P : Program} {w : World} {K : PySem.W.Frag} {mg : Str → Option Value} {base : Heap}
/-- the state of the draws: two numbers, the first not negative -/
def StAt (H : Hp) (p : Addr) : Prop := ∃ s t : Int, H p = some (.lst [.int s, .int t]) ∧ 0 ≤ s
def sp_law_state (K : PySem.W.Frag) : Sp := fun vs H Q _ => ∃ (a : Addr) (ns : List Int), vs = [.ref a] ∧ SqL K H a (ns.map V.int) ∧ ns.length ≤ 63 ∧ ∀ p H', Same H H' → H p = none → StAt H' p → Q (.ref p) H'
theorem ok_law_state (T : Top K mg) (hN : base.NoSeer) (hT : P.given.tree = none) : FnOk P w K mg base CX0 1 T.a_law_state T.d_law_state ["script"] (sp_law_state K) := by
  refine T.F_law_state.ok sc_law_state (fun vs H Q E h => ?_) (fun cdv A outer s H vs Q E hr h => ?_)
  · obtain ⟨a, ns, rfl, _⟩ := h
    rfl
  · obtain ⟨a, ns, rfl, hs, hl, q⟩ := h
    refine ⟨_, (pss_cons (ps_set (i := 1) sc_law_state.nd rfl (by first | exact .inl rfl | exact .inr rfl) pe_int)
      (pss_cons (ps_set (i := 2) sc_law_state.nd rfl (by first | exact .inl rfl | exact .inr rfl) pe_int)
      (pss_cons (ps_for PassesOwn.never rfl (piS K rfl (pe_slice (slLK K rfl) (pv 0) po_none (po_some pe_int))) (pg_name (i := 3) sc_law_state.nd rfl (by first | exact .inl rfl | exact .inr rfl))
      (pss_cons (ps_set (i := 1) sc_law_state.nd rfl (by first | exact .inl rfl | exact .inr rfl) (pe_op op_add (pe_op op_mul (pv 1) pe_int) (pe_callB (call_abs) (by rfl) T.z_abs (by decide +kernel) (pa_cons (pv 3) pa_nil))))
      (pss_one (ps_set (i := 2) sc_law_state.nd rfl (by first | exact .inl rfl | exact .inr rfl) (pe_op op_mod (pe_callTy (call_int1) (by rfl) T.z_int (by decide +kernel) (pa_cons (pe_op op_add (pe_op op_mul (pv 2) pe_int) (pv 3)) pa_nil)) pe_int)))))
      (pss_one (ps_ret (pe_lst (pa_cons (pv 1) (pa_cons (pv 2) pa_nil)))))))), ?_⟩
    refine ⟨_, rfl, 63, rfl, a, _, rfl, hs, fun p np => ?_⟩
    have s1 : Same H (upd H p (.lst (cutV (ns.map V.int) none (some 63)))) := same_upd np
    have ec : cutV (ns.map V.int) none (some 63) = ns.map V.int := by
      rw [show (63 : Int) = ((63 : Nat) : Int) from rfl, cut_take, List.take_of_length_le (by rw [List.length_map]; exact hl)]
    rw [ec] at s1 ⊢
    refine ⟨p, _, rfl, .inl (.inl (.inl upd_same)), fun J G W hG => ?_⟩
    generalize hH1 : upd H p (.lst (ns.map V.int)) = H1 at s1 hG
    refine for_it W (fun i σ H2 => H2 = H1 ∧ ∃ s t y, σ = [some (.ref a), some (.int s), some (.int t), y] ∧ 0 ≤ s) ⟨rfl, 0, 1, none, rfl, Int.le_refl _⟩ (fun i σ H2 _ ⟨e, _⟩ => hG _ fun b _ o h => by rw [e]; exact h) ?_ ?_
    · rintro i x σ H2 H2' hi ⟨rfl, s, t, y, rfl, h0⟩ ⟨rfl, ex⟩
      obtain ⟨z, ez, rfl⟩ := ints_get ex
      refine ⟨_, rfl, _, _, rfl, rfl, .inr ⟨by decide, by decide⟩, _, rfl, z, rfl, _, _, rfl, rfl, ?_⟩
      refine ⟨_, rfl, _, _, rfl, rfl, .inr ⟨by decide, by decide⟩, _, rfl, _, _, rfl, rfl, .inl ⟨_, rfl, _, _, rfl, rfl, by show (0 : Int) < 2147483647; decide, ?_⟩⟩
      refine ⟨rfl, _, _, _, rfl, ?_⟩
      split <;> omega
    · rintro σ H2 ⟨rfl, s, t, y, rfl, h0⟩
      refine ⟨_, rfl, _, rfl, by show 2 ≤ sizeLine; decide, fun p2 np2 => ?_⟩
      exact q p2 _ (s1.trans (same_upd np2)) (Same.free s1 np2) ⟨s, t, upd_same, h0⟩
theorem cal_law_state (T : Top K mg) (hN : base.NoSeer) (hT : P.given.tree = none) : Cal P w K mg base 1 "_law_state" (sp_law_state K) [] := ⟨⟨_, _, _, [], ok_law_state T hN hT, T.g_law_state, T.F_law_state.kp, T.b_law_state, .nil⟩⟩
def sp_law_take : Sp := fun vs H Q _ => ∃ (p : Addr) (m : Nat), vs = [.ref p, .int m] ∧ StAt H p ∧ 0 < m ∧ m < 1000000 ∧ ∀ (r : Nat) H', r < m → Off p H H' → StAt H' p → Q (.int r) H'
theorem ok_law_take (T : Top K mg) (hN : base.NoSeer) (hT : P.given.tree = none) : FnOk P w K mg base CX0 1 T.a_law_take T.d_law_take ["state", "m"] sp_law_take := by
  refine T.F_law_take.ok sc_law_take (fun vs H Q E h => ?_) (fun cdv A outer s H vs Q E hr h => ?_)
  · obtain ⟨p, m, rfl, _⟩ := h
    rfl
  · obtain ⟨p, m, rfl, ⟨s0, t0, hp, h0⟩, hm0, hm1, q⟩ := h
    have hsq : SqL K H p [V.int s0, V.int t0] := .inl (.inl hp)
    refine ⟨_, (pss_cons (ps_if (pt_cmpR op_gt (pe_ix (ixL K rfl) (pv 0) pe_int (fun _ _ => rfl)) pe_int (nomark _))
      (pss_cons (ps_set (i := 2) sc_law_take.nd rfl (by first | exact .inl rfl | exact .inr rfl) (pe_op op_mod (pe_callTy (call_int1) (by rfl) T.z_int (by decide +kernel) (pa_cons (pe_ix (ixL K rfl) (pv 0) pe_int (fun _ _ => rfl)) pa_nil)) (pv 1)))
      (pss_cons (ps_asg (pe_op op_fdiv (pe_ix (ixL K rfl) (pv 0) pe_int (fun _ _ => rfl)) (pv 1)) (pg_sub (pv 0) pe_int set_list))
      (pss_one (ps_ret (pv 2)))))
      pss_nil)
      (pss_cons (ps_asg (pe_op op_mod (pe_callTy (call_int1) (by rfl) T.z_int (by decide +kernel) (pa_cons (pe_op op_add (pe_op op_mul (pe_ix (ixL K rfl) (pv 0) pe_int (fun _ _ => rfl)) pe_int) pe_int) pa_nil)) pe_int) (pg_sub (pv 0) pe_int set_list))
      (pss_one (ps_ret (pe_op op_mod (pe_callTy (call_int1) (by rfl) T.z_int (by decide +kernel) (pa_cons (pe_op op_fdiv (pe_ix (ixL K rfl) (pv 0) pe_int (fun _ _ => rfl)) pe_int) pa_nil)) (pv 1)))))), ?_⟩
    refine ⟨_, rfl, p, _, _, _, rfl, rfl, hsq, atI_nat (j := 0) rfl, _, _, rfl, rfl, _, rfl, ?_⟩
    have fin : ∀ x : Int, ∃ r : Nat, (r : Int) = x % (m : Int) ∧ r < m := fun x => by
      have h1 := Int.emod_nonneg x (b := (m : Int)) (by omega)
      have h2 := Int.emod_lt_of_pos x (b := (m : Int)) (by omega)
      exact ⟨(x % (m : Int)).toNat, by omega, by omega⟩
    by_cases hs : 0 < s0
    · rw [decide_eq_true hs]
      refine iteT ?_
      refine ⟨_, rfl, p, _, _, _, rfl, rfl, hsq, atI_nat (j := 0) rfl, .inl ⟨_, rfl, _, rfl, _, _, rfl, rfl, by omega, ?_⟩⟩
      refine ⟨_, rfl, p, _, _, _, rfl, rfl, hsq, atI_nat (j := 0) rfl, _, rfl, _, _, rfl, rfl, ⟨by omega, by omega⟩, _, rfl, p, _, _, 0, rfl, rfl, hp, ixN_nat (n := 2) (k := 0) (by decide), ?_⟩
      obtain ⟨r, er, hr2⟩ := fin s0
      refine ⟨_, rfl, ?_⟩
      show Q (.int (s0 % (m : Int))) _
      rw [← er]
      exact q r _ hr2 Off.upd ⟨_, t0, upd_same, Int.ediv_nonneg h0 (by omega)⟩
    · rw [decide_eq_false hs]
      refine iteF ?_
      refine ⟨_, rfl, p, _, _, _, rfl, rfl, hsq, atI_nat (j := 1) rfl, _, _, rfl, rfl, .inr ⟨by decide, by decide⟩, _, _, rfl, rfl, .inl ⟨_, rfl, _, _, rfl, rfl, by show (0 : Int) < 2147483647; decide, ?_⟩⟩
      refine ⟨_, rfl, p, _, _, 1, rfl, rfl, hp, ixN_nat (n := 2) (k := 1) (by decide), ?_⟩
      refine ⟨_, rfl, p, _, _, _, rfl, rfl, .inl (.inl upd_same), atI_nat (j := 1) rfl, _, _, rfl, rfl, ⟨by decide, by decide⟩, .inl ⟨_, rfl, _, rfl, _, _, rfl, rfl, by omega, ?_⟩⟩
      obtain ⟨r, er, hr2⟩ := fin ((t0 * 48271 + 11) % 2147483647 / 7)
      show Q (.int ((t0 * 48271 + 11) % 2147483647 / 7 % (m : Int))) _
      rw [← er]
      exact q r _ hr2 Off.upd ⟨s0, _, upd_same, h0⟩
theorem cal_law_take (T : Top K mg) (hN : base.NoSeer) (hT : P.given.tree = none) : Cal P w K mg base 1 "_law_take" sp_law_take [] := ⟨⟨_, _, _, [], ok_law_take T hN hT, T.g_law_take, T.F_law_take.kp, T.b_law_take, .nil⟩⟩

/-! ### _law_rows -/
def sp_law_rows (K : PySem.W.Frag) : Sp := fun vs H Q _ => ∃ (p : Addr) (h wd M : Nat), vs = [.ref p, .int h, .int wd, .int M] ∧ StAt H p ∧ h ≤ 100 ∧ wd ≤ 100 ∧ M ≤ 1000 ∧
  ∀ v m H', Off p H H' → StAt H' p → TRows K H' v m → m.length = h → (∀ r ∈ m, r.length = wd) → (∀ r ∈ m, ∀ x ∈ r, x.natAbs ≤ 2 * M) → Q v H'
def sp_law_product (K : PySem.W.Frag) : Sp := fun vs H Q _ => ∃ (va vb : V) (a b : List (List Int)) (wd B1 B2 : Nat), vs = [va, vb, .int wd] ∧ TRows K H va a ∧ TRows K H vb b ∧ a.length ≤ 1000 ∧ b.length ≤ 1000 ∧ wd ≤ 1000 ∧ (∀ r ∈ a, r.length = b.length) ∧ (∀ r ∈ b, r.length = wd) ∧
  (∀ r ∈ a, Bits B1 r) ∧ (∀ r ∈ b, Bits B2 r) ∧ B1 + B2 ≤ 134217728 ∧ ∀ v' H', Same H H' → TRows K H' v' (mulM a b wd) → Q v' H'
theorem ok_law_product (T : Top K mg) (hN : base.NoSeer) (hT : P.given.tree = none) : FnOk P w K mg base CX0 1 T.a_law_product T.d_law_product ["a", "b", "width"] (sp_law_product K) := by
  refine T.F_law_product.ok sc_law_product (fun vs H Q E h => ?_) (fun cdv A outer s H vs Q E hr h => ?_)
  · obtain ⟨va, vb, a, b, wd, B1, B2, rfl, _⟩ := h
    rfl
  · obtain ⟨va, vb, a, b, wd, B1, B2, rfl, ⟨pa, wa, rfl, ha, hpa⟩, ⟨pb, wb, rfl, hb, hpb⟩, la, lb, hwd, ra, rb, ba, bb, hB, q⟩ := h
    have lwa := Paired.length hpa
    have lwb := Paired.length hpb
    refine ⟨_, (pss_cons (ps_set (i := 3) sc_law_product.nd rfl (by first | exact .inl rfl | exact .inr rfl) (pe_lst pa_nil))
      (pss_cons (ps_for PassesOwn.never rfl (piT K rfl (pv 0)) (pg_name (i := 4) sc_law_product.nd rfl (by first | exact .inl rfl | exact .inr rfl))
      (pss_cons (ps_set (i := 5) sc_law_product.nd rfl (by first | exact .inl rfl | exact .inr rfl) (pe_lst pa_nil))
      (pss_cons (ps_for PassesOwn.never rfl (pi_range1 (by rfl) T.z_range (pa_cons (pv 2) pa_nil)) (pg_name (i := 6) sc_law_product.nd rfl (by first | exact .inl rfl | exact .inr rfl))
      (pss_cons (ps_set (i := 7) sc_law_product.nd rfl (by first | exact .inl rfl | exact .inr rfl) pe_int)
      (pss_cons (ps_for PassesOwn.never rfl (pi_range1 (by rfl) T.z_range (pa_cons (pe_callB (lenS K rfl) (by rfl) T.z_len (by decide +kernel) (pa_cons (pv 1) pa_nil)) pa_nil)) (pg_name (i := 8) sc_law_product.nd rfl (by first | exact .inl rfl | exact .inr rfl))
      (pss_one (ps_set (i := 7) sc_law_product.nd rfl (by first | exact .inl rfl | exact .inr rfl) (pe_op op_add (pv 7) (pe_op op_mulX (pe_ix (ixT K rfl) (pv 4) (pv 8) (fun _ _ => rfl)) (pe_ix (ixT K rfl) (pe_ix (ixT K rfl) (pv 1) (pv 8) (fun _ _ => rfl)) (pv 6) (fun _ _ => rfl)))))))
      (pss_one (ps_expr (pe_bm PySem.F.plainAttrs_list PySem.F.slot_list_append PySem.F.type_list_append mt_append (pv 5) (pa_cons (pv 7) pa_nil)))))))
      (pss_one (ps_expr (pe_bm PySem.F.plainAttrs_list PySem.F.slot_list_append PySem.F.type_list_append mt_append (pv 3) (pa_cons (pe_callTy (tupK K rfl) (by rfl) T.z_tuple (by decide +kernel) (pa_cons (pv 5) pa_nil)) pa_nil)))))))
      (pss_one (ps_ret (pe_callTy (tupK K rfl) (by rfl) T.z_tuple (by decide +kernel) (pa_cons (pv 3) pa_nil)))))), ?_⟩
    -- out = []
    refine ⟨by show 0 ≤ sizeLine; decide, fun R nR => ?_⟩
    have s0 : Same H (upd H R (.lst [])) := same_upd nR
    refine ⟨_, rfl, pa, rfl, ⟨wa, Same.seqT s0 ha⟩, ?_⟩
    generalize hH0 : upd H R (.lst []) = H0 at s0
    have eR0 : H0 R = some (.lst []) := by rw [← hH0, upd_same]
    refine for_it (walk_tup (xs := wa)) (fun i σ H2 => ∃ y4 y5 y6 y7 y8, σ = [some (.ref pa), some (.ref pb), some (.int wd), some (.ref R), y4, y5, y6, y7, y8] ∧ Same H H2 ∧ ∃ l, H2 R = some (.lst l) ∧ Paired (TRow K H2) l ((mulM a b wd).take i)) ⟨_, _, _, _, _, rfl, s0, [], eR0, .nil⟩ (fun i σ H2 _ ⟨_, _, _, _, _, _, s2, _⟩ => Same.seqT s2 ha) ?_ ?_
    · rintro i x σ H2 H2' hi ⟨y4, y5, y6, y7, y8, rfl, s2, l, eR, hl⟩ ⟨rfl, ex⟩
      obtain ⟨r, er, pr, rfl, hpr⟩ := Paired.getR hpa ex
      have hrm := List.mem_of_getElem? er
      have hrl := ra r hrm
      have eg : (mulM a b wd)[i]? = some ((transp b wd).map fun c => dotI r c) := by
        unfold mulM
        rw [List.getElem?_map, er]
        rfl
      have hll := Paired.length hl
      rw [List.length_take] at hll
      -- line = []
      refine ⟨by show 0 ≤ sizeLine; decide, fun L nL => ?_⟩
      have s3 : Same H2' (upd H2' L (.lst [])) := same_upd nL
      -- for k in range(width)
      refine ⟨_, rfl, (wd : Int), rfl, by omega, by omega, ?_⟩
      refine for_it walk_range (fun k σ H3 => ∃ y6 y7 y8, σ = [some (.ref pa), some (.ref pb), some (.int wd), some (.ref R), some (.ref pr), some (.ref L), y6, y7, y8] ∧ Same H2' H3 ∧ H3 L = some (.lst ((((transp b wd).map fun c => dotI r c).take k).map V.int))) ⟨_, _, _, rfl, s3, by rw [upd_same]; rfl⟩ (fun _ _ _ _ _ => trivial) ?_ ?_
      · rintro k x σ H3 H3' hk ⟨y6, y7, y8, rfl, s4, eL⟩ ⟨rfl, rfl⟩
        have hk' : k < wd := by omega
        have sb := s2.trans s4
        -- for j in range(len(b))
        refine ⟨_, rfl, pb, _, rfl, .inr (Same.seqT sb hb), _, rfl, by omega, by omega, ?_⟩
        refine for_it walk_range (fun j σ H4 => ∃ y8, σ = [some (.ref pa), some (.ref pb), some (.int wd), some (.ref R), some (.ref pr), some (.ref L), some (.int (0 + (k : Int))), some (.int ((List.zipWith (· * ·) r (b.map fun r => r.getD k 0)).take j).sum), y8] ∧ H4 = H3') ⟨_, rfl, rfl⟩ (fun _ _ _ _ _ => trivial) ?_ ?_
        · rintro j x σ H4 H4' hj ⟨y8, rfl, rfl⟩ ⟨rfl, rfl⟩
          have hj' : j < b.length := by omega
          have hjr : j < r.length := by omega
          obtain ⟨vb, evb, qb, rfl, hqb⟩ := Paired.getR (Paired.swap hpb) (List.getElem?_eq_getElem hj')
          have hbl := rb _ (List.getElem_mem hj')
          have hkb : k < (b[j]).length := by omega
          refine ⟨_, rfl, _, rfl, _, rfl, pr, _, _, _, rfl, rfl, Same.seqT sb hpr, at_of (j := j) (by omega) (ints_at (List.getElem?_eq_getElem hjr)), ?_⟩
          refine ⟨_, rfl, _, rfl, pb, wb, _, _, rfl, rfl, Same.seqT sb hb, at_of (j := j) (by omega) evb, _, rfl, qb, _, _, _, rfl, rfl, Same.seqT sb hqb, at_of (j := k) (by omega) (ints_at (List.getElem?_eq_getElem hkb)), ?_⟩
          refine ⟨_, _, rfl, rfl, mulx_ok (ba r hrm _ (List.getElem_mem hjr)) (bb _ (List.getElem_mem hj') _ (List.getElem_mem hkb)) hB, _, _, rfl, rfl, ?_⟩
          refine ⟨some (.int (0 + (j : Int))), ?_, rfl⟩
          have ez : (List.zipWith (· * ·) r (b.map fun r => r.getD k 0))[j]? = some (r[j] * (b[j])[k]) := by
            rw [List.getElem?_zipWith, List.getElem?_eq_getElem hjr, List.getElem?_map, List.getElem?_eq_getElem hj']
            show some (r[j] * (b[j]).getD k 0) = _
            rw [List.getD_eq_getElem?_getD, List.getElem?_eq_getElem hkb]
            rfl
          rw [sum_take ez]
          rfl
        · rintro σ H4 ⟨y8, rfl, rfl⟩
          -- line.append(total)
          refine ⟨_, rfl, .inl ⟨rfl, _, .inl (.inl eL)⟩, _, rfl, L, _, _, rfl, rfl, eL, small1000 (by rw [List.length_map, List.length_take, List.length_map, transp_len]; omega), ?_⟩
          refine ⟨_, _, _, rfl, fun c o h => ?_, ?_⟩
          · rw [upd_ne (ne_of_none h nL)]
            exact s4 _ _ h
          · rw [upd_same, List.take_of_length_le (l := List.zipWith (· * ·) r (b.map fun r => r.getD k 0)) (by rw [List.length_zipWith, List.length_map]; omega)]
            have ec : ((transp b wd).map fun c => dotI r c)[k]? = some (dotI r (b.map fun r => r.getD k 0)) := by
              unfold transp
              rw [List.getElem?_map, List.getElem?_map, List.getElem?_range hk']
              rfl
            rw [List.take_add_one, ec, List.map_append]
            rfl
      · rintro σ H3 ⟨y6, y7, y8, rfl, s4, eL⟩
        rw [List.take_of_length_le (by rw [List.length_map, transp_len]; omega)] at eL
        -- out.append(tuple(line))
        have eR3 := s4 _ _ eR
        refine ⟨_, rfl, .inl ⟨rfl, _, .inl (.inl eR3)⟩, _, rfl, L, _, rfl, .inl ⟨.inl (.inl eL), fun t nt => ?_⟩⟩
        have st := same_upd (o := .tup (((transp b wd).map fun c => dotI r c).map V.int)) nt
        have eR4 := st _ _ eR3
        refine ⟨R, l, _, rfl, rfl, eR4, small1000 (by omega), ?_⟩
        have htR : t ≠ R := by
          rintro rfl
          rw [eR3] at nt
          cases nt
        refine ⟨_, _, _, _, _, rfl, fun c o h => ?_, l ++ [.ref t], upd_same, ?_⟩
        · rw [upd_ne (ne_of_none h nR)]
          exact st _ _ (s4 _ _ (s2 _ _ h))
        · rw [List.take_add_one, eg]
          refine Paired.snoc (L2.Paired.mapP hl fun _ _ r => TRow.off eR4 Off.upd (TRow.same st (TRow.same s4 r))) ⟨t, rfl, .inl (.inl ?_)⟩
          rw [upd_ne htR, upd_same]
    · rintro σ H2 ⟨y4, y5, y6, y7, y8, rfl, s2, l, eR, hl⟩
      refine ⟨_, rfl, R, l, rfl, .inl ⟨.inl (.inl eR), fun t nt => ?_⟩⟩
      refine q _ _ (s2.trans (same_upd nt)) ⟨t, l, rfl, .inl (.inl upd_same), ?_⟩
      rw [List.take_of_length_le (by rw [mulM_len]; omega)] at hl
      exact L2.Paired.mapP hl fun _ _ => TRow.same (same_upd nt)
theorem cal_law_product (T : Top K mg) (hN : base.NoSeer) (hT : P.given.tree = none) : Cal P w K mg base 1 "_law_product" (sp_law_product K) [] := ⟨⟨_, _, _, [], ok_law_product T hN hT, T.g_law_product, T.F_law_product.kp, T.b_law_product, .nil⟩⟩
/-! ### _law_is_rows -/
def sp_law_is_rows (K : PySem.W.Frag) (C : Addr) : Sp := fun vs H Q _ => ∃ (v : V) (m : List (List Int)) (n wd : Nat), vs = [v, .int n, .int wd] ∧ IsGrid K C H v m wd ∧ m.length = n ∧ n ≤ 1000 ∧ Q (.bl true) H
theorem ok_law_is_rows (T : Top K mg) (hN : base.NoSeer) (hT : P.given.tree = none) : FnOk P w K mg base CX0 3 T.a_law_is_rows T.d_law_is_rows ["value", "height", "width"] (sp_law_is_rows K T.C_Grid) := by
  refine T.F_law_is_rows.ok sc_law_is_rows (fun vs H Q E h => ?_) (fun cdv A outer s H vs Q E hr h => ?_)
  · obtain ⟨v, m, n, wd, rfl, _⟩ := h
    rfl
  · obtain ⟨v, m, n, wd, rfl, G, hl, hn, q⟩ := h
    obtain ⟨⟨p, dx, t, rfl, ho, a, ws, rfl, hs, hp⟩, hrw⟩ := id G
    have lw := Paired.length hp
    refine ⟨_, (pss_cons (ps_if (PW.pt (pw_or (pt_not (pt_val (pe_callB (isiK K rfl) (by rfl) T.z_isinstance (by decide +kernel) (pa_cons (pv 0) (pa_cons (pe_glob (by rfl) T.g_Grid (show RelV (.ref T.C_Grid) _ from rfl)) pa_nil))))) (pw_or (pt_not (pt_val (pe_callB (isiK K rfl) (by rfl) T.z_isinstance (by decide +kernel) (pa_cons (fldK K rfl (pv 0) rfl) (pa_cons (pe_bltn (v := .ty "tuple") (by rfl) T.z_tuple (by decide +kernel) rfl) pa_nil))))) (pw_or (pt_cmpR op_ne (fldK K rfl (pv 0) rfl) (pv 2) (nomark _)) (pw_or1 (pt_cmpR op_ne (pe_callB (call_ownLen (E := L2.E0) (T.m_Grid_len.at_) T.m_Grid_len.fn (ok_Grid_len T hN hT) (hr.mono (by decide)) T.b_Grid_len (fun _ _ _ _ h => h.elim)) (by rfl) T.z_len (by decide +kernel) (pa_cons (pv 0) pa_nil)) (pv 1) (nomark _)))))))
      (pss_one (ps_ret pe_bl))
      pss_nil)
      (pss_cons (ps_for PassesOwn.never rfl (piS K rfl (fldK K rfl (pv 0) rfl)) (pg_name (i := 3) sc_law_is_rows.nd rfl (by first | exact .inl rfl | exact .inr rfl))
      (pss_cons (ps_if (PW.pt (pw_or (pt_not (pt_val (pe_callB (isiK K rfl) (by rfl) T.z_isinstance (by decide +kernel) (pa_cons (pv 3) (pa_cons (pe_bltn (v := .ty "tuple") (by rfl) T.z_tuple (by decide +kernel) rfl) pa_nil))))) (pw_or1 (pt_cmpR op_ne (pe_callB (lenS K rfl) (by rfl) T.z_len (by decide +kernel) (pa_cons (pv 3) pa_nil)) (pv 2) (nomark _)))))
      (pss_one (ps_ret pe_bl))
      pss_nil)
      (pss_one (ps_for PassesOwn.never rfl (piS K rfl (pv 3)) (pg_name (i := 4) sc_law_is_rows.nd rfl (by first | exact .inl rfl | exact .inr rfl))
      (pss_one (ps_if (PW.pt (pw_or (pt_not (pt_val (pe_callB (isiK K rfl) (by rfl) T.z_isinstance (by decide +kernel) (pa_cons (pv 4) (pa_cons (pe_bltn (v := .ty "int") (by rfl) T.z_int (by decide +kernel) rfl) pa_nil))))) (pw_or1 (pt_val (pe_callB (isiK K rfl) (by rfl) T.z_isinstance (by decide +kernel) (pa_cons (pv 4) (pa_cons (pe_bltn (v := .ty "bool") (by rfl) T.z_bool (by decide +kernel) rfl) pa_nil)))))))
      (pss_one (ps_ret pe_bl))
      pss_nil))))))
      (pss_one (ps_ret pe_bl)))), ?_⟩
    refine ⟨_, rfl, .ref p, .ref T.C_Grid, _, _, true, rfl, .own _, .base (.ins ho T.cl_Grid T.kc_Grid T.kg_Grid T.kt_Grid T.km_Grid), ?_, true, rfl, ?_⟩
    · unfold PySem.W.kitOne
      rw [if_pos (beq_self_eq_true _)]
    refine iteF ?_
    refine ⟨_, rfl, p, T.C_Grid, dx, _, _, rfl, ho, T.cl_Grid, T.n_rows, flds_rows _ _, .ref a, .ty "tuple", _, _, true, rfl, .ty _, row_ty hs, kit_ty (by decide +kernel), true, rfl, ?_⟩
    refine iteF ?_
    refine ⟨_, rfl, p, T.C_Grid, dx, _, _, rfl, ho, T.cl_Grid, T.n_width, flds_width _ _, _, rfl, rfl, _, rfl, ?_⟩
    rw [decide_eq_true rfl]
    refine iteF ?_
    refine ⟨_, rfl, p, dx, _, rfl, ho, .ref p, m, wd, rfl, G, m.length, rfl, by omega, _, rfl, rfl, _, rfl, ?_⟩
    rw [hl, decide_eq_true rfl]
    refine iteF ?_
    -- for row in value.rows
    refine ⟨_, rfl, p, T.C_Grid, dx, _, _, rfl, ho, T.cl_Grid, T.n_rows, flds_rows _ _, a, ws, rfl, .inr hs, fun J G W hG => ?_⟩
    refine for_it W (fun i σ H2 => ∃ y3 y4, σ = [some (.ref p), some (.int n), some (.int wd), y3, y4] ∧ H2 = H) ⟨_, _, rfl, rfl⟩ (fun i σ H2 _ ⟨_, _, _, e⟩ => hG _ fun b _ o h => by rw [e]; exact h) ?_ ?_
    · rintro i x σ H2 H2' hi ⟨y3, y4, rfl, rfl⟩ ⟨rfl, ex⟩
      obtain ⟨r, er, b, rfl, hb⟩ := Paired.getR hp ex
      have hrl := hrw r (List.mem_of_getElem? er)
      refine ⟨_, rfl, .ref b, .ty "tuple", _, _, true, rfl, .ty _, row_ty hb, kit_ty (by decide +kernel), true, rfl, ?_⟩
      refine iteF ?_
      refine ⟨_, rfl, b, _, rfl, .inr hb, _, rfl, rfl, _, rfl, ?_⟩
      rw [List.length_map, hrl, decide_eq_true rfl]
      refine iteF ?_
      -- for x in row
      refine ⟨_, rfl, b, _, rfl, .inr hb, fun J2 G2 W2 hG2 => ?_⟩
      refine for_it W2 (fun i σ H2 => ∃ y4, σ = [some (.ref p), some (.int n), some (.int wd), some (.ref b), y4] ∧ H2 = H2') ⟨_, rfl, rfl⟩ (fun i σ H2 _ ⟨_, _, e⟩ => hG2 _ fun b _ o h => by rw [e]; exact h) ?_ ?_
      · rintro j y σ H3 H3' hj ⟨y4, rfl, rfl⟩ ⟨rfl, ey⟩
        obtain ⟨z, ez, rfl⟩ := ints_get ey
        refine ⟨_, rfl, .int z, .ty "int", _, _, true, rfl, .ty _, .base (.int z), kit_ty (by decide +kernel), true, rfl, ?_⟩
        refine iteF ?_
        refine ⟨_, rfl, .int z, .ty "bool", _, _, false, rfl, .ty _, .base (.int z), kit_ty (by decide +kernel), false, rfl, ?_⟩
        refine iteF ?_
        exact ⟨_, rfl, rfl⟩
      · rintro σ H3 ⟨y4, rfl, rfl⟩
        exact ⟨_, _, rfl, rfl⟩
    · rintro σ H2 ⟨y3, y4, rfl, rfl⟩
      exact q
theorem cal_law_is_rows (T : Top K mg) (hN : base.NoSeer) (hT : P.given.tree = none) : Cal P w K mg base 3 "_law_is_rows" (sp_law_is_rows K T.C_Grid) [] := ⟨⟨_, _, _, [], ok_law_is_rows T hN hT, T.g_law_is_rows, T.F_law_is_rows.kp, T.b_law_is_rows, .nil⟩⟩


end
end K03
namespace K03
open PySem PySem.Spec PyProof.Rows L2 Gm
open C8 (Cal Met Mak pe_c pe_mt pe_mt0 pe_mk)
section
variable {P : Program} {w : World} {K : PySem.W.Frag} {mg : Str → Option Value} {base : Heap}
/-! ### _law_determinant -/
def SRows (K : PySem.W.Frag) (H : Hp) (v : V) (m : List (List Int)) : Prop := ∃ a ws, v = .ref a ∧ Gm.Seq K H a ws ∧ Paired (TRow K H) ws m
def detT (n : Nat) (f : List (List Int) → Int) (m : List (List Int)) (k : Nat) : Int := (1 - 2 * ((k : Int) % 2)) * (m.headD []).getD k 0 * f (m.tail.map fun r => r.eraseIdx k)
/-- the law's determinant, by the first row -/
def detL : Nat → List (List Int) → Int
  | 0, _ => 1
  | n + 1, m => ((List.range (n + 1)).map (detT n (detL n) m)).sum
theorem sq_tail {n B : Nat} {m : List (List Int)} (h : Sq (n + 1) B m) {k : Nat} (hk : k < n + 1) : Sq n B (m.tail.map fun r => r.eraseIdx k) := by
  refine ⟨by rw [List.length_map, List.length_tail, h.len]; rfl, fun r hr => ?_, fun r hr => ?_⟩
  · obtain ⟨r', hr', rfl⟩ := List.mem_map.mp hr
    have := h.row r' (List.mem_of_mem_tail hr')
    rw [List.length_eraseIdx_of_lt (by omega), this]
    rfl
  · obtain ⟨r', hr', rfl⟩ := List.mem_map.mp hr
    exact fun x hx => h.bits r' (List.mem_of_mem_tail hr') x (List.mem_of_mem_eraseIdx hx)
theorem sum_le {b : Nat} : ∀ {l : List Int}, (∀ x ∈ l, x.natAbs ≤ b) → l.sum.natAbs ≤ l.length * b
  | [], _ => by simp
  | x :: l, h => by
    have h1 := h x (List.mem_cons_self ..)
    have h2 := sum_le fun y hy => h y (List.mem_cons_of_mem _ hy)
    rw [List.sum_cons, List.length_cons, Nat.succ_mul]
    omega
theorem detT_le {n B c : Nat} {f : List (List Int) → Int} {m : List (List Int)} (h : Sq (n + 1) B m) {k : Nat} (hk : k < n + 1) (hf : (f (m.tail.map fun r => r.eraseIdx k)).natAbs < 2 ^ c) : (detT n f m k).natAbs ≤ 2 ^ B * 2 ^ c := by
  have h0 : ((m.headD []).getD k 0).natAbs < 2 ^ B := by
    cases m with
    | nil => exact absurd h.len (by simp)
    | cons r m =>
      have hr := h.row r (List.mem_cons_self ..)
      have hk' : k < r.length := by omega
      show (r.getD k 0).natAbs < 2 ^ B
      rw [List.getD_eq_getElem?_getD, List.getElem?_eq_getElem hk']
      exact h.bits r (List.mem_cons_self ..) _ (List.getElem_mem hk')
  have h1 : (1 - 2 * ((k : Int) % 2)).natAbs = 1 := by omega
  unfold detT
  rw [Int.natAbs_mul, Int.natAbs_mul, h1, Nat.one_mul]
  exact Nat.mul_le_mul (Nat.le_of_lt h0) (Nat.le_of_lt hf)
theorem detL_le {B : Nat} : ∀ {n : Nat} {m : List (List Int)}, n ≤ 10 → Sq n B m → (detL n m).natAbs < 2 ^ (n * (B + 8) + 1)
  | 0, m, _, _ => by
    show (1 : Int).natAbs < 2 ^ (0 * (B + 8) + 1)
    rw [Nat.zero_mul]
    decide
  | n + 1, m, hn, h => by
    have hs : (detL (n + 1) m).natAbs ≤ ((List.range (n + 1)).map (detT n (detL n) m)).length * (2 ^ B * 2 ^ (n * (B + 8) + 1)) := by
      refine sum_le fun x hx => ?_
      obtain ⟨k, hk, rfl⟩ := List.mem_map.mp hx
      have hk' := List.mem_range.mp hk
      exact detT_le h hk' (detL_le (by omega) (sq_tail h hk'))
    rw [List.length_map, List.length_range, ← Nat.pow_add] at hs
    have h2 : n + 1 < 2 ^ 8 := by have : (2 : Nat) ^ 8 = 256 := rfl; omega
    have h3 : (n + 1) * 2 ^ (B + (n * (B + 8) + 1)) < 2 ^ 8 * 2 ^ (B + (n * (B + 8) + 1)) := (Nat.mul_lt_mul_right (Nat.two_pow_pos _)).mpr h2
    rw [← Nat.pow_add] at h3
    have e : 8 + (B + (n * (B + 8) + 1)) = (n + 1) * (B + 8) + 1 := by rw [Nat.succ_mul]; omega
    rw [e] at h3
    omega
def sp_det (K : PySem.W.Frag) (n : Nat) : Sp := fun vs H Q _ => ∃ v m B, vs = [v] ∧ SRows K H v m ∧ Sq n B m ∧ B ≤ 1200000 ∧ ∀ H', Same H H' → Q (.int (detL n m)) H'
def sp_law_determinant (K : PySem.W.Frag) : Sp := fun vs H Q E => ∃ n, n ≤ 8 ∧ sp_det K n vs H Q E

end
end K03
namespace K03
open PySem PySem.Spec PyProof.Rows L2 Gm
open C8 (Cal Met Mak pe_c pe_mt pe_mt0 pe_mk)
section
variable {P : Program} {w : World} {K : PySem.W.Frag} {mg : Str → Option Value} {base : Heap}
/-! ### the determinant up to size 4 -/
theorem row1 {r : List Int} (h : r.length = 1) : ∃ a, r = [a] := by
  match r, h with
  | [a], _ => exact ⟨a, rfl⟩
theorem row2 {r : List Int} (h : r.length = 2) : ∃ a b, r = [a, b] := by
  match r, h with
  | [a, b], _ => exact ⟨a, b, rfl⟩
theorem row3 {r : List Int} (h : r.length = 3) : ∃ a b c, r = [a, b, c] := by
  match r, h with
  | [a, b, c], _ => exact ⟨a, b, c, rfl⟩
theorem row4 {r : List Int} (h : r.length = 4) : ∃ a b c d, r = [a, b, c, d] := by
  match r, h with
  | [a, b, c, d], _ => exact ⟨a, b, c, d, rfl⟩
/-- a square matrix -/
structure Sz (n : Nat) (m : List (List Int)) : Prop where
  len : m.length = n
  row : ∀ r ∈ m, r.length = n
theorem Sq.sz {n B : Nat} {m : List (List Int)} (h : Sq n B m) : Sz n m := ⟨h.len, h.row⟩
theorem sz1 {m : List (List Int)} (h : Sz 1 m) : ∃ a, m = [[a]] := by
  obtain ⟨h1, h2⟩ := h
  match m, h1, h2 with
  | [r], _, h2 =>
    obtain ⟨a, rfl⟩ := row1 (h2 r (by simp))
    exact ⟨a, rfl⟩
theorem sz2 {m : List (List Int)} (h : Sz 2 m) : ∃ a b c d, m = [[a, b], [c, d]] := by
  obtain ⟨h1, h2⟩ := h
  match m, h1, h2 with
  | [r, t], _, h2 =>
    obtain ⟨a, b, rfl⟩ := row2 (h2 r (by simp))
    obtain ⟨c, d, rfl⟩ := row2 (h2 t (by simp))
    exact ⟨a, b, c, d, rfl⟩
theorem sz3 {m : List (List Int)} (h : Sz 3 m) : ∃ a b c d e f g k l, m = [[a, b, c], [d, e, f], [g, k, l]] := by
  obtain ⟨h1, h2⟩ := h
  match m, h1, h2 with
  | [r, t, u], _, h2 =>
    obtain ⟨a, b, c, rfl⟩ := row3 (h2 r (by simp))
    obtain ⟨d, e, f, rfl⟩ := row3 (h2 t (by simp))
    obtain ⟨g, k, l, rfl⟩ := row3 (h2 u (by simp))
    exact ⟨a, b, c, d, e, f, g, k, l, rfl⟩
theorem sz4 {m : List (List Int)} (h : Sz 4 m) : ∃ a b c d e f g k l o p q r s t u, m = [[a, b, c, d], [e, f, g, k], [l, o, p, q], [r, s, t, u]] := by
  obtain ⟨h1, h2⟩ := h
  match m, h1, h2 with
  | [r1, r2, r3, r4], _, h2 =>
    obtain ⟨a, b, c, d, rfl⟩ := row4 (h2 r1 (by simp))
    obtain ⟨e, f, g, k, rfl⟩ := row4 (h2 r2 (by simp))
    obtain ⟨l, o, p, q, rfl⟩ := row4 (h2 r3 (by simp))
    obtain ⟨r, s, t, u, rfl⟩ := row4 (h2 r4 (by simp))
    exact ⟨a, b, c, d, e, f, g, k, l, o, p, q, r, s, t, u, rfl⟩
def D2 (a b c d : Int) : Int := a * d - b * c
def D3 (a b c d e f g k l : Int) : Int := a * D2 e f k l - b * D2 d f g l + c * D2 d e g k
def D4 (a b c d e f g k l o p q r s t u : Int) : Int := a * D3 f g k o p q s t u - b * D3 e g k l p q r t u + c * D3 e f k l o q r s u - d * D3 e f g l o p r s t
theorem detL1 (a : Int) : detL 1 [[a]] = a := by
  show (1 - 2 * ((0 : Int) % 2)) * a * 1 + 0 = a
  grind
theorem detL2 (a b c d : Int) : detL 2 [[a, b], [c, d]] = D2 a b c d := by
  show (1 - 2 * ((0 : Int) % 2)) * a * detL 1 [[d]] + ((1 - 2 * ((1 : Int) % 2)) * b * detL 1 [[c]] + 0) = a * d - b * c
  rw [detL1, detL1]
  grind
theorem detL3 (a b c d e f g k l : Int) : detL 3 [[a, b, c], [d, e, f], [g, k, l]] = D3 a b c d e f g k l := by
  show (1 - 2 * ((0 : Int) % 2)) * a * detL 2 [[e, f], [k, l]] + ((1 - 2 * ((1 : Int) % 2)) * b * detL 2 [[d, f], [g, l]] + ((1 - 2 * ((2 : Int) % 2)) * c * detL 2 [[d, e], [g, k]] + 0)) = a * D2 e f k l - b * D2 d f g l + c * D2 d e g k
  rw [detL2, detL2, detL2]
  grind
theorem detL4 (a b c d e f g k l o p q r s t u : Int) : detL 4 [[a, b, c, d], [e, f, g, k], [l, o, p, q], [r, s, t, u]] = D4 a b c d e f g k l o p q r s t u := by
  show (1 - 2 * ((0 : Int) % 2)) * a * detL 3 [[f, g, k], [o, p, q], [s, t, u]] + ((1 - 2 * ((1 : Int) % 2)) * b * detL 3 [[e, g, k], [l, p, q], [r, t, u]] + ((1 - 2 * ((2 : Int) % 2)) * c * detL 3 [[e, f, k], [l, o, q], [r, s, u]] + ((1 - 2 * ((3 : Int) % 2)) * d * detL 3 [[e, f, g], [l, o, p], [r, s, t]] + 0))) = a * D3 f g k o p q s t u - b * D3 e g k l p q r t u + c * D3 e f k l o q r s u - d * D3 e f g l o p r s t
  rw [detL3, detL3, detL3, detL3]
  generalize D3 f g k o p q s t u = A
  generalize D3 e g k l p q r t u = B
  generalize D3 e f k l o q r s u = C
  generalize D3 e f g l o p r s t = D
  grind
theorem fdiv_of {x l D : Int} (hl : l ≠ 0) (h : x = l * D) : x.fdiv l = D := by
  rw [h]
  exact Int.mul_fdiv_cancel_left D hl
/-! #### the elimination -/
theorem bare1 (s l x : Int) : bare 1 s l [[x]] = s * x := by
  by_cases h : x = 0
  · subst h
    show (0 : Int) = s * 0
    rw [Int.mul_zero]
  · have e : bare 1 s l [[x]] = match (if x ≠ 0 then some 0 else none) with
      | none => 0
      | some k => bare 0 (if k % 2 = 1 then -s else s) ((([[x]] : List (List Int)).getD k []).headD 0) (((([[x]] : List (List Int)).eraseIdx k)).map fun r => clr ((([[x]] : List (List Int))).getD k []) r l) := rfl
    rw [e, if_pos h]
    rfl
theorem bare2 (s l a b c d D : Int) (hl : l ≠ 0) (h : D2 a b c d = l * D) : bare 2 s l [[a, b], [c, d]] = s * D := by
  have e : bare 2 s l [[a, b], [c, d]] = match (if a ≠ 0 then some 0 else if c ≠ 0 then some 1 else none) with
      | none => 0
      | some k => bare 1 (if k % 2 = 1 then -s else s) ((([[a, b], [c, d]] : List (List Int)).getD k []).headD 0) (((([[a, b], [c, d]] : List (List Int)).eraseIdx k)).map fun r => clr ((([[a, b], [c, d]] : List (List Int))).getD k []) r l) := rfl
  unfold D2 at h
  rw [e]
  by_cases ha : a = 0
  · rw [if_neg (fun z => z ha)]
    by_cases hc : c = 0
    · rw [if_neg (fun z => z hc)]
      have : l * D = 0 := by rw [← h, ha, hc]; grind
      rcases Int.mul_eq_zero.mp this with z | z
      · exact absurd z hl
      · rw [z, Int.mul_zero]
    · rw [if_pos hc]
      show bare 1 (-s) c [[(c * b - a * d).fdiv l]] = s * D
      rw [fdiv_of hl (show c * b - a * d = l * (-D) by grind), bare1]
      grind
  · rw [if_pos ha]
    show bare 1 s a [[(a * d - c * b).fdiv l]] = s * D
    rw [fdiv_of hl (show a * d - c * b = l * D by grind), bare1]

end
end K03
namespace K03
open PySem PySem.Spec PyProof.Rows L2 Gm
open C8 (Cal Met Mak pe_c pe_mt pe_mt0 pe_mk)
section
variable {P : Program} {w : World} {K : PySem.W.Frag} {mg : Str → Option Value} {base : Heap}
theorem chio3 (a b c d e f g k x : Int) : D2 (a * e - d * b) (a * f - d * c) (a * k - g * b) (a * x - g * c) = a * D3 a b c d e f g k x := by
  unfold D3 D2
  grind
theorem D3_swap1 (a b c d e f g k x : Int) : D3 d e f a b c g k x = -D3 a b c d e f g k x := by
  unfold D3 D2
  grind
theorem D3_swap2 (a b c d e f g k x : Int) : D3 g k x a b c d e f = D3 a b c d e f g k x := by
  unfold D3 D2
  grind
theorem D3_zero (b c e f k x : Int) : D3 0 b c 0 e f 0 k x = 0 := by
  unfold D3 D2
  grind
theorem cancel2 {l x y : Int} (hl : l ≠ 0) (h : l * l * x = l * l * y) : x = y :=
  Int.eq_of_mul_eq_mul_left (Int.mul_ne_zero hl hl) h
theorem can3 {l a D Z p1 p2 p3 p4 : Int} (hl : l ≠ 0) (t : D2 (l * p1) (l * p2) (l * p3) (l * p4) = a * Z) (hz : Z = l * l * D) : D2 p1 p2 p3 p4 = a * D := by
  refine cancel2 hl ?_
  rw [hz] at t
  unfold D2 at t ⊢
  grind
theorem bare3 (s l a b c d e f g k x D q1 q2 q3 q4 q5 q6 : Int) (hl : l ≠ 0) (h1 : D2 a b d e = l * q1) (h2 : D2 a c d f = l * q2) (h3 : D2 a b g k = l * q3) (h4 : D2 a c g x = l * q4) (h5 : D2 d e g k = l * q5) (h6 : D2 d f g x = l * q6) (h : D3 a b c d e f g k x = l * l * D) :
    bare 3 s l [[a, b, c], [d, e, f], [g, k, x]] = s * D := by
  have eb : bare 3 s l [[a, b, c], [d, e, f], [g, k, x]] = match (if a ≠ 0 then some 0 else if d ≠ 0 then some 1 else if g ≠ 0 then some 2 else none) with
      | none => 0
      | some k' => bare 2 (if k' % 2 = 1 then -s else s) ((([[a, b, c], [d, e, f], [g, k, x]] : List (List Int)).getD k' []).headD 0) (((([[a, b, c], [d, e, f], [g, k, x]] : List (List Int)).eraseIdx k')).map fun r => clr ((([[a, b, c], [d, e, f], [g, k, x]] : List (List Int))).getD k' []) r l) := rfl
  rw [eb]
  unfold D2 at h1 h2 h3 h4 h5 h6
  by_cases ha : a = 0
  · rw [if_neg (fun z => z ha)]
    by_cases hd : d = 0
    · rw [if_neg (fun z => z hd)]
      by_cases hg : g = 0
      · rw [if_neg (fun z => z hg)]
        rw [ha, hd, hg, D3_zero] at h
        have z : D = 0 := cancel2 hl (by rw [← h, Int.mul_zero])
        rw [z, Int.mul_zero]
      · rw [if_pos hg]
        show bare 2 s g [[(g * b - a * k).fdiv l, (g * c - a * x).fdiv l], [(g * e - d * k).fdiv l, (g * f - d * x).fdiv l]] = s * D
        have f1 : g * b - a * k = l * (-q3) := by grind
        have f2 : g * c - a * x = l * (-q4) := by grind
        have f3 : g * e - d * k = l * (-q5) := by grind
        have f4 : g * f - d * x = l * (-q6) := by grind
        rw [fdiv_of hl f1, fdiv_of hl f2, fdiv_of hl f3, fdiv_of hl f4]
        refine bare2 s g _ _ _ _ D hg (can3 hl (Z := l * l * D) ?_ rfl)
        have t := chio3 g k x a b c d e f
        rw [D3_swap2, h, f1, f2, f3, f4] at t
        exact t
    · rw [if_pos hd]
      show bare 2 (-s) d [[(d * b - a * e).fdiv l, (d * c - a * f).fdiv l], [(d * k - g * e).fdiv l, (d * x - g * f).fdiv l]] = s * D
      have f1 : d * b - a * e = l * (-q1) := by grind
      have f2 : d * c - a * f = l * (-q2) := by grind
      have f3 : d * k - g * e = l * q5 := by grind
      have f4 : d * x - g * f = l * q6 := by grind
      rw [fdiv_of hl f1, fdiv_of hl f2, fdiv_of hl f3, fdiv_of hl f4]
      rw [show s * D = -s * (-D) by grind]
      refine bare2 (-s) d _ _ _ _ (-D) hd (can3 hl (Z := -(l * l * D)) ?_ (by rw [Int.mul_neg]))
      have t := chio3 d e f a b c g k x
      rw [D3_swap1, h, f1, f2, f3, f4] at t
      exact t
  · rw [if_pos ha]
    show bare 2 s a [[(a * e - d * b).fdiv l, (a * f - d * c).fdiv l], [(a * k - g * b).fdiv l, (a * x - g * c).fdiv l]] = s * D
    have f1 : a * e - d * b = l * q1 := by grind
    have f2 : a * f - d * c = l * q2 := by grind
    have f3 : a * k - g * b = l * q3 := by grind
    have f4 : a * x - g * c = l * q4 := by grind
    rw [fdiv_of hl f1, fdiv_of hl f2, fdiv_of hl f3, fdiv_of hl f4]
    refine bare2 s a _ _ _ _ D ha (can3 hl (Z := l * l * D) ?_ rfl)
    have t := chio3 a b c d e f g k x
    rw [h, f1, f2, f3, f4] at t
    exact t
/-! size 4 -/
theorem chio4 (t0 t1 t2 t3 u0 u1 u2 u3 v0 v1 v2 v3 w0 w1 w2 w3 : Int) :
    D3 (t0 * u1 - u0 * t1) (t0 * u2 - u0 * t2) (t0 * u3 - u0 * t3) (t0 * v1 - v0 * t1) (t0 * v2 - v0 * t2) (t0 * v3 - v0 * t3) (t0 * w1 - w0 * t1) (t0 * w2 - w0 * t2) (t0 * w3 - w0 * t3) =
      t0 * t0 * D4 t0 t1 t2 t3 u0 u1 u2 u3 v0 v1 v2 v3 w0 w1 w2 w3 := by
  unfold D4 D3 D2
  grind
theorem D4_at1 (t0 t1 t2 t3 u0 u1 u2 u3 v0 v1 v2 v3 w0 w1 w2 w3 : Int) : D4 u0 u1 u2 u3 t0 t1 t2 t3 v0 v1 v2 v3 w0 w1 w2 w3 = -D4 t0 t1 t2 t3 u0 u1 u2 u3 v0 v1 v2 v3 w0 w1 w2 w3 := by
  unfold D4 D3 D2
  grind
theorem D4_at2 (t0 t1 t2 t3 u0 u1 u2 u3 v0 v1 v2 v3 w0 w1 w2 w3 : Int) : D4 v0 v1 v2 v3 t0 t1 t2 t3 u0 u1 u2 u3 w0 w1 w2 w3 = D4 t0 t1 t2 t3 u0 u1 u2 u3 v0 v1 v2 v3 w0 w1 w2 w3 := by
  unfold D4 D3 D2
  grind
theorem D4_at3 (t0 t1 t2 t3 u0 u1 u2 u3 v0 v1 v2 v3 w0 w1 w2 w3 : Int) : D4 w0 w1 w2 w3 t0 t1 t2 t3 u0 u1 u2 u3 v0 v1 v2 v3 = -D4 t0 t1 t2 t3 u0 u1 u2 u3 v0 v1 v2 v3 w0 w1 w2 w3 := by
  unfold D4 D3 D2
  grind
theorem D4_zero (t1 t2 t3 u1 u2 u3 v1 v2 v3 w1 w2 w3 : Int) : D4 0 t1 t2 t3 0 u1 u2 u3 0 v1 v2 v3 0 w1 w2 w3 = 0 := by
  unfold D4 D3 D2
  grind
/-- after one step, with the pivot row t -/
theorem bare4p (s t0 t1 t2 t3 u0 u1 u2 u3 v0 v1 v2 v3 w0 w1 w2 w3 D : Int) (h0 : t0 ≠ 0) (h : D4 t0 t1 t2 t3 u0 u1 u2 u3 v0 v1 v2 v3 w0 w1 w2 w3 = D) :
    bare 3 s t0 [[(t0 * u1 - u0 * t1).fdiv 1, (t0 * u2 - u0 * t2).fdiv 1, (t0 * u3 - u0 * t3).fdiv 1], [(t0 * v1 - v0 * t1).fdiv 1, (t0 * v2 - v0 * t2).fdiv 1, (t0 * v3 - v0 * t3).fdiv 1], [(t0 * w1 - w0 * t1).fdiv 1, (t0 * w2 - w0 * t2).fdiv 1, (t0 * w3 - w0 * t3).fdiv 1]] = s * D := by
  have f : ∀ x : Int, x.fdiv 1 = x := fun x => fdiv_of (by decide) (by rw [Int.one_mul])
  simp only [f]
  refine bare3 s t0 _ _ _ _ _ _ _ _ _ D (D3 t0 t1 t2 u0 u1 u2 v0 v1 v2) (D3 t0 t1 t3 u0 u1 u3 v0 v1 v3) (D3 t0 t1 t2 u0 u1 u2 w0 w1 w2) (D3 t0 t1 t3 u0 u1 u3 w0 w1 w3) (D3 t0 t1 t2 v0 v1 v2 w0 w1 w2) (D3 t0 t1 t3 v0 v1 v3 w0 w1 w3) h0 ?_ ?_ ?_ ?_ ?_ ?_ ?_
  · exact chio3 ..
  · exact chio3 ..
  · exact chio3 ..
  · exact chio3 ..
  · exact chio3 ..
  · exact chio3 ..
  · rw [chio4, h]
theorem bare4 (s t0 t1 t2 t3 u0 u1 u2 u3 v0 v1 v2 v3 w0 w1 w2 w3 : Int) :
    bare 4 s 1 [[t0, t1, t2, t3], [u0, u1, u2, u3], [v0, v1, v2, v3], [w0, w1, w2, w3]] = s * D4 t0 t1 t2 t3 u0 u1 u2 u3 v0 v1 v2 v3 w0 w1 w2 w3 := by
  have eb : bare 4 s 1 [[t0, t1, t2, t3], [u0, u1, u2, u3], [v0, v1, v2, v3], [w0, w1, w2, w3]] = match (if t0 ≠ 0 then some 0 else if u0 ≠ 0 then some 1 else if v0 ≠ 0 then some 2 else if w0 ≠ 0 then some 3 else none) with
      | none => 0
      | some k' => bare 3 (if k' % 2 = 1 then -s else s) ((([[t0, t1, t2, t3], [u0, u1, u2, u3], [v0, v1, v2, v3], [w0, w1, w2, w3]] : List (List Int)).getD k' []).headD 0) (((([[t0, t1, t2, t3], [u0, u1, u2, u3], [v0, v1, v2, v3], [w0, w1, w2, w3]] : List (List Int)).eraseIdx k')).map fun r => clr ((([[t0, t1, t2, t3], [u0, u1, u2, u3], [v0, v1, v2, v3], [w0, w1, w2, w3]] : List (List Int))).getD k' []) r 1) := rfl
  rw [eb]
  by_cases ht : t0 = 0
  · rw [if_neg (fun z => z ht)]
    by_cases hu : u0 = 0
    · rw [if_neg (fun z => z hu)]
      by_cases hv : v0 = 0
      · rw [if_neg (fun z => z hv)]
        by_cases hw : w0 = 0
        · rw [if_neg (fun z => z hw), ht, hu, hv, hw, D4_zero, Int.mul_zero]
        · rw [if_pos hw]
          refine (bare4p (-s) w0 w1 w2 w3 t0 t1 t2 t3 u0 u1 u2 u3 v0 v1 v2 v3 _ hw rfl).trans ?_
          rw [D4_at3]
          grind
      · rw [if_pos hv]
        refine (bare4p s v0 v1 v2 v3 t0 t1 t2 t3 u0 u1 u2 u3 w0 w1 w2 w3 _ hv rfl).trans ?_
        rw [D4_at2]
    · rw [if_pos hu]
      refine (bare4p (-s) u0 u1 u2 u3 t0 t1 t2 t3 v0 v1 v2 v3 w0 w1 w2 w3 _ hu rfl).trans ?_
      rw [D4_at1]
      grind
  · rw [if_pos ht]
    exact bare4p s t0 t1 t2 t3 u0 u1 u2 u3 v0 v1 v2 v3 w0 w1 w2 w3 _ ht rfl
theorem bare3' (s a b c d e f g k x : Int) : bare 3 s 1 [[a, b, c], [d, e, f], [g, k, x]] = s * D3 a b c d e f g k x :=
  bare3 s 1 a b c d e f g k x (D3 a b c d e f g k x) _ _ _ _ _ _ (by decide) (Int.one_mul _).symm (Int.one_mul _).symm (Int.one_mul _).symm (Int.one_mul _).symm (Int.one_mul _).symm (Int.one_mul _).symm (by rw [Int.one_mul, Int.one_mul])
/-- the elimination gives the law's determinant -/
theorem bare_det {n : Nat} {m : List (List Int)} (hn : n ≤ 4) (h : Sz n m) : bare n 1 1 m = detL n m := by
  match n, hn, h with
  | 0, _, _ => exact Int.one_mul 1
  | 1, _, h =>
    obtain ⟨a, rfl⟩ := sz1 h
    rw [bare1, detL1, Int.one_mul]
  | 2, _, h =>
    obtain ⟨a, b, c, d, rfl⟩ := sz2 h
    rw [bare2 1 1 a b c d (D2 a b c d) (by decide) (Int.one_mul _).symm, detL2, Int.one_mul]
  | 3, _, h =>
    obtain ⟨a, b, c, d, e, f, g, k, x, rfl⟩ := sz3 h
    rw [bare3', detL3, Int.one_mul]
  | 4, _, h =>
    obtain ⟨a, b, c, d, e, f, g, k, l, o, p, q, r, s, t, u, rfl⟩ := sz4 h
    rw [bare4, detL4, Int.one_mul]

end
end K03
namespace K03
open PySem PySem.Spec PyProof.Rows L2 Gm
open C8 (Cal Met Mak pe_c pe_mt pe_mt0 pe_mk)
section
variable {P : Program} {w : World} {K : PySem.W.Frag} {mg : Str → Option Value} {base : Heap}
/-! ### products, transposed, adjugate -/
def sgn (k : Nat) : Int := 1 - 2 * ((k : Int) % 2)
/-- the law's adjugate, by minors -/
def dueM (n : Nat) (m : List (List Int)) : List (List Int) := (List.range n).map fun i => (List.range n).map fun k => sgn (i + k) * detL (n - 1) (cutM m k i)
/-- d times the unit matrix -/
def scalM (n : Nat) (d : Int) : List (List Int) := (List.range n).map fun i => (List.range n).map fun k => d * (if i = k then 1 else 0)
theorem sgn_even {k : Nat} (h : k % 2 = 0) : sgn k = 1 := by
  unfold sgn
  omega
theorem sgn_odd {k : Nat} (h : k % 2 = 1) : sgn k = -1 := by
  unfold sgn
  omega
theorem mul_eq2 (a00 a01 a10 a11 b00 b01 b10 b11 : Int) : mulM [[a00, a01], [a10, a11]] [[b00, b01], [b10, b11]] 2 = [[a00 * b00 + (a01 * b10 + 0), a00 * b01 + (a01 * b11 + 0)], [a10 * b00 + (a11 * b10 + 0), a10 * b01 + (a11 * b11 + 0)]] := rfl
set_option maxHeartbeats 40000000 in
theorem mulD2 (a00 a01 a10 a11 b00 b01 b10 b11 : Int) : D2 (a00 * b00 + (a01 * b10 + 0)) (a00 * b01 + (a01 * b11 + 0)) (a10 * b00 + (a11 * b10 + 0)) (a10 * b01 + (a11 * b11 + 0)) = D2 a00 a01 a10 a11 * D2 b00 b01 b10 b11 := by
  unfold D2
  grind
theorem tr_eq2 (a00 a01 a10 a11 : Int) : transp [[a00, a01], [a10, a11]] 2 = [[a00, a10], [a01, a11]] := rfl
theorem trD2 (a00 a01 a10 a11 : Int) : D2 a00 a10 a01 a11 = D2 a00 a01 a10 a11 := by
  unfold D2
  grind
theorem due_eq2 (a00 a01 a10 a11 : Int) : dueM 2 [[a00, a01], [a10, a11]] = [[a11, -a01], [-a10, a00]] := by
  show [[sgn (0 + 0) * detL 1 [[a11]], sgn (0 + 1) * detL 1 [[a01]]], [sgn (1 + 0) * detL 1 [[a10]], sgn (1 + 1) * detL 1 [[a00]]]] = _
  simp only [detL1]
  simp only [sgn_even (show (0 + 0) % 2 = 0 from rfl), sgn_odd (show (0 + 1) % 2 = 1 from rfl), sgn_odd (show (1 + 0) % 2 = 1 from rfl), sgn_even (show (1 + 1) % 2 = 0 from rfl), Int.one_mul, Int.neg_mul]
theorem adj2l00 (a00 a01 a10 a11 : Int) : a00 * a11 + (a01 * (-a10) + 0) = D2 a00 a01 a10 a11 * 1 := by
  unfold D2
  grind
theorem adj2l01 (a00 a01 a10 a11 : Int) : a00 * (-a01) + (a01 * a00 + 0) = D2 a00 a01 a10 a11 * 0 := by
  unfold D2
  grind
theorem adj2l10 (a00 a01 a10 a11 : Int) : a10 * a11 + (a11 * (-a10) + 0) = D2 a00 a01 a10 a11 * 0 := by
  unfold D2
  grind
theorem adj2l11 (a00 a01 a10 a11 : Int) : a10 * (-a01) + (a11 * a00 + 0) = D2 a00 a01 a10 a11 * 1 := by
  unfold D2
  grind
theorem adj2r00 (a00 a01 a10 a11 : Int) : a11 * a00 + ((-a01) * a10 + 0) = D2 a00 a01 a10 a11 * 1 := by
  unfold D2
  grind
theorem adj2r01 (a00 a01 a10 a11 : Int) : a11 * a01 + ((-a01) * a11 + 0) = D2 a00 a01 a10 a11 * 0 := by
  unfold D2
  grind
theorem adj2r10 (a00 a01 a10 a11 : Int) : (-a10) * a00 + (a00 * a10 + 0) = D2 a00 a01 a10 a11 * 0 := by
  unfold D2
  grind
theorem adj2r11 (a00 a01 a10 a11 : Int) : (-a10) * a01 + (a00 * a11 + 0) = D2 a00 a01 a10 a11 * 1 := by
  unfold D2
  grind
theorem scal_eq2 (d : Int) : scalM 2 d = [[d * 1, d * 0], [d * 0, d * 1]] := rfl
theorem adjM2l (a00 a01 a10 a11 : Int) : mulM [[a00, a01], [a10, a11]] [[a11, -a01], [-a10, a00]] 2 = scalM 2 (D2 a00 a01 a10 a11) := by
  show [[a00 * a11 + (a01 * (-a10) + 0), a00 * (-a01) + (a01 * a00 + 0)], [a10 * a11 + (a11 * (-a10) + 0), a10 * (-a01) + (a11 * a00 + 0)]] = _
  rw [scal_eq2]
  rw [adj2l00 a00 a01 a10 a11, adj2l01 a00 a01 a10 a11, adj2l10 a00 a01 a10 a11, adj2l11 a00 a01 a10 a11]
theorem adjM2r (a00 a01 a10 a11 : Int) : mulM [[a11, -a01], [-a10, a00]] [[a00, a01], [a10, a11]] 2 = scalM 2 (D2 a00 a01 a10 a11) := by
  show [[a11 * a00 + ((-a01) * a10 + 0), a11 * a01 + ((-a01) * a11 + 0)], [(-a10) * a00 + (a00 * a10 + 0), (-a10) * a01 + (a00 * a11 + 0)]] = _
  rw [scal_eq2]
  rw [adj2r00 a00 a01 a10 a11, adj2r01 a00 a01 a10 a11, adj2r10 a00 a01 a10 a11, adj2r11 a00 a01 a10 a11]
theorem mul_eq3 (a00 a01 a02 a10 a11 a12 a20 a21 a22 b00 b01 b02 b10 b11 b12 b20 b21 b22 : Int) : mulM [[a00, a01, a02], [a10, a11, a12], [a20, a21, a22]] [[b00, b01, b02], [b10, b11, b12], [b20, b21, b22]] 3 = [[a00 * b00 + (a01 * b10 + (a02 * b20 + 0)), a00 * b01 + (a01 * b11 + (a02 * b21 + 0)), a00 * b02 + (a01 * b12 + (a02 * b22 + 0))], [a10 * b00 + (a11 * b10 + (a12 * b20 + 0)), a10 * b01 + (a11 * b11 + (a12 * b21 + 0)), a10 * b02 + (a11 * b12 + (a12 * b22 + 0))], [a20 * b00 + (a21 * b10 + (a22 * b20 + 0)), a20 * b01 + (a21 * b11 + (a22 * b21 + 0)), a20 * b02 + (a21 * b12 + (a22 * b22 + 0))]] := rfl
set_option maxHeartbeats 40000000 in
theorem mulD3 (a00 a01 a02 a10 a11 a12 a20 a21 a22 b00 b01 b02 b10 b11 b12 b20 b21 b22 : Int) : D3 (a00 * b00 + (a01 * b10 + (a02 * b20 + 0))) (a00 * b01 + (a01 * b11 + (a02 * b21 + 0))) (a00 * b02 + (a01 * b12 + (a02 * b22 + 0))) (a10 * b00 + (a11 * b10 + (a12 * b20 + 0))) (a10 * b01 + (a11 * b11 + (a12 * b21 + 0))) (a10 * b02 + (a11 * b12 + (a12 * b22 + 0))) (a20 * b00 + (a21 * b10 + (a22 * b20 + 0))) (a20 * b01 + (a21 * b11 + (a22 * b21 + 0))) (a20 * b02 + (a21 * b12 + (a22 * b22 + 0))) = D3 a00 a01 a02 a10 a11 a12 a20 a21 a22 * D3 b00 b01 b02 b10 b11 b12 b20 b21 b22 := by
  unfold D3 D2
  grind
theorem tr_eq3 (a00 a01 a02 a10 a11 a12 a20 a21 a22 : Int) : transp [[a00, a01, a02], [a10, a11, a12], [a20, a21, a22]] 3 = [[a00, a10, a20], [a01, a11, a21], [a02, a12, a22]] := rfl
theorem trD3 (a00 a01 a02 a10 a11 a12 a20 a21 a22 : Int) : D3 a00 a10 a20 a01 a11 a21 a02 a12 a22 = D3 a00 a01 a02 a10 a11 a12 a20 a21 a22 := by
  unfold D3 D2
  grind
theorem due_eq3 (a00 a01 a02 a10 a11 a12 a20 a21 a22 : Int) : dueM 3 [[a00, a01, a02], [a10, a11, a12], [a20, a21, a22]] = [[D2 a11 a12 a21 a22, -D2 a01 a02 a21 a22, D2 a01 a02 a11 a12], [-D2 a10 a12 a20 a22, D2 a00 a02 a20 a22, -D2 a00 a02 a10 a12], [D2 a10 a11 a20 a21, -D2 a00 a01 a20 a21, D2 a00 a01 a10 a11]] := by
  show [[sgn (0 + 0) * detL 2 [[a11, a12], [a21, a22]], sgn (0 + 1) * detL 2 [[a01, a02], [a21, a22]], sgn (0 + 2) * detL 2 [[a01, a02], [a11, a12]]], [sgn (1 + 0) * detL 2 [[a10, a12], [a20, a22]], sgn (1 + 1) * detL 2 [[a00, a02], [a20, a22]], sgn (1 + 2) * detL 2 [[a00, a02], [a10, a12]]], [sgn (2 + 0) * detL 2 [[a10, a11], [a20, a21]], sgn (2 + 1) * detL 2 [[a00, a01], [a20, a21]], sgn (2 + 2) * detL 2 [[a00, a01], [a10, a11]]]] = _
  simp only [detL2]
  simp only [sgn_even (show (0 + 0) % 2 = 0 from rfl), sgn_odd (show (0 + 1) % 2 = 1 from rfl), sgn_even (show (0 + 2) % 2 = 0 from rfl), sgn_odd (show (1 + 0) % 2 = 1 from rfl), sgn_even (show (1 + 1) % 2 = 0 from rfl), sgn_odd (show (1 + 2) % 2 = 1 from rfl), sgn_even (show (2 + 0) % 2 = 0 from rfl), sgn_odd (show (2 + 1) % 2 = 1 from rfl), sgn_even (show (2 + 2) % 2 = 0 from rfl), Int.one_mul, Int.neg_mul]
theorem adj3l00 (a00 a01 a02 a10 a11 a12 a20 a21 a22 : Int) : a00 * (D2 a11 a12 a21 a22) + (a01 * (-D2 a10 a12 a20 a22) + (a02 * (D2 a10 a11 a20 a21) + 0)) = D3 a00 a01 a02 a10 a11 a12 a20 a21 a22 * 1 := by
  unfold D3 D2
  grind
theorem adj3l01 (a00 a01 a02 a10 a11 a12 a20 a21 a22 : Int) : a00 * (-D2 a01 a02 a21 a22) + (a01 * (D2 a00 a02 a20 a22) + (a02 * (-D2 a00 a01 a20 a21) + 0)) = D3 a00 a01 a02 a10 a11 a12 a20 a21 a22 * 0 := by
  unfold D3 D2
  grind
theorem adj3l02 (a00 a01 a02 a10 a11 a12 a20 a21 a22 : Int) : a00 * (D2 a01 a02 a11 a12) + (a01 * (-D2 a00 a02 a10 a12) + (a02 * (D2 a00 a01 a10 a11) + 0)) = D3 a00 a01 a02 a10 a11 a12 a20 a21 a22 * 0 := by
  unfold D3 D2
  grind
theorem adj3l10 (a00 a01 a02 a10 a11 a12 a20 a21 a22 : Int) : a10 * (D2 a11 a12 a21 a22) + (a11 * (-D2 a10 a12 a20 a22) + (a12 * (D2 a10 a11 a20 a21) + 0)) = D3 a00 a01 a02 a10 a11 a12 a20 a21 a22 * 0 := by
  unfold D3 D2
  grind
theorem adj3l11 (a00 a01 a02 a10 a11 a12 a20 a21 a22 : Int) : a10 * (-D2 a01 a02 a21 a22) + (a11 * (D2 a00 a02 a20 a22) + (a12 * (-D2 a00 a01 a20 a21) + 0)) = D3 a00 a01 a02 a10 a11 a12 a20 a21 a22 * 1 := by
  unfold D3 D2
  grind
theorem adj3l12 (a00 a01 a02 a10 a11 a12 a20 a21 a22 : Int) : a10 * (D2 a01 a02 a11 a12) + (a11 * (-D2 a00 a02 a10 a12) + (a12 * (D2 a00 a01 a10 a11) + 0)) = D3 a00 a01 a02 a10 a11 a12 a20 a21 a22 * 0 := by
  unfold D3 D2
  grind
theorem adj3l20 (a00 a01 a02 a10 a11 a12 a20 a21 a22 : Int) : a20 * (D2 a11 a12 a21 a22) + (a21 * (-D2 a10 a12 a20 a22) + (a22 * (D2 a10 a11 a20 a21) + 0)) = D3 a00 a01 a02 a10 a11 a12 a20 a21 a22 * 0 := by
  unfold D3 D2
  grind
theorem adj3l21 (a00 a01 a02 a10 a11 a12 a20 a21 a22 : Int) : a20 * (-D2 a01 a02 a21 a22) + (a21 * (D2 a00 a02 a20 a22) + (a22 * (-D2 a00 a01 a20 a21) + 0)) = D3 a00 a01 a02 a10 a11 a12 a20 a21 a22 * 0 := by
  unfold D3 D2
  grind
theorem adj3l22 (a00 a01 a02 a10 a11 a12 a20 a21 a22 : Int) : a20 * (D2 a01 a02 a11 a12) + (a21 * (-D2 a00 a02 a10 a12) + (a22 * (D2 a00 a01 a10 a11) + 0)) = D3 a00 a01 a02 a10 a11 a12 a20 a21 a22 * 1 := by
  unfold D3 D2
  grind
theorem adj3r00 (a00 a01 a02 a10 a11 a12 a20 a21 a22 : Int) : (D2 a11 a12 a21 a22) * a00 + ((-D2 a01 a02 a21 a22) * a10 + ((D2 a01 a02 a11 a12) * a20 + 0)) = D3 a00 a01 a02 a10 a11 a12 a20 a21 a22 * 1 := by
  unfold D3 D2
  grind
theorem adj3r01 (a00 a01 a02 a10 a11 a12 a20 a21 a22 : Int) : (D2 a11 a12 a21 a22) * a01 + ((-D2 a01 a02 a21 a22) * a11 + ((D2 a01 a02 a11 a12) * a21 + 0)) = D3 a00 a01 a02 a10 a11 a12 a20 a21 a22 * 0 := by
  unfold D3 D2
  grind
theorem adj3r02 (a00 a01 a02 a10 a11 a12 a20 a21 a22 : Int) : (D2 a11 a12 a21 a22) * a02 + ((-D2 a01 a02 a21 a22) * a12 + ((D2 a01 a02 a11 a12) * a22 + 0)) = D3 a00 a01 a02 a10 a11 a12 a20 a21 a22 * 0 := by
  unfold D3 D2
  grind
theorem adj3r10 (a00 a01 a02 a10 a11 a12 a20 a21 a22 : Int) : (-D2 a10 a12 a20 a22) * a00 + ((D2 a00 a02 a20 a22) * a10 + ((-D2 a00 a02 a10 a12) * a20 + 0)) = D3 a00 a01 a02 a10 a11 a12 a20 a21 a22 * 0 := by
  unfold D3 D2
  grind
theorem adj3r11 (a00 a01 a02 a10 a11 a12 a20 a21 a22 : Int) : (-D2 a10 a12 a20 a22) * a01 + ((D2 a00 a02 a20 a22) * a11 + ((-D2 a00 a02 a10 a12) * a21 + 0)) = D3 a00 a01 a02 a10 a11 a12 a20 a21 a22 * 1 := by
  unfold D3 D2
  grind
theorem adj3r12 (a00 a01 a02 a10 a11 a12 a20 a21 a22 : Int) : (-D2 a10 a12 a20 a22) * a02 + ((D2 a00 a02 a20 a22) * a12 + ((-D2 a00 a02 a10 a12) * a22 + 0)) = D3 a00 a01 a02 a10 a11 a12 a20 a21 a22 * 0 := by
  unfold D3 D2
  grind
theorem adj3r20 (a00 a01 a02 a10 a11 a12 a20 a21 a22 : Int) : (D2 a10 a11 a20 a21) * a00 + ((-D2 a00 a01 a20 a21) * a10 + ((D2 a00 a01 a10 a11) * a20 + 0)) = D3 a00 a01 a02 a10 a11 a12 a20 a21 a22 * 0 := by
  unfold D3 D2
  grind
theorem adj3r21 (a00 a01 a02 a10 a11 a12 a20 a21 a22 : Int) : (D2 a10 a11 a20 a21) * a01 + ((-D2 a00 a01 a20 a21) * a11 + ((D2 a00 a01 a10 a11) * a21 + 0)) = D3 a00 a01 a02 a10 a11 a12 a20 a21 a22 * 0 := by
  unfold D3 D2
  grind
theorem adj3r22 (a00 a01 a02 a10 a11 a12 a20 a21 a22 : Int) : (D2 a10 a11 a20 a21) * a02 + ((-D2 a00 a01 a20 a21) * a12 + ((D2 a00 a01 a10 a11) * a22 + 0)) = D3 a00 a01 a02 a10 a11 a12 a20 a21 a22 * 1 := by
  unfold D3 D2
  grind
theorem scal_eq3 (d : Int) : scalM 3 d = [[d * 1, d * 0, d * 0], [d * 0, d * 1, d * 0], [d * 0, d * 0, d * 1]] := rfl
theorem adjM3l (a00 a01 a02 a10 a11 a12 a20 a21 a22 : Int) : mulM [[a00, a01, a02], [a10, a11, a12], [a20, a21, a22]] [[D2 a11 a12 a21 a22, -D2 a01 a02 a21 a22, D2 a01 a02 a11 a12], [-D2 a10 a12 a20 a22, D2 a00 a02 a20 a22, -D2 a00 a02 a10 a12], [D2 a10 a11 a20 a21, -D2 a00 a01 a20 a21, D2 a00 a01 a10 a11]] 3 = scalM 3 (D3 a00 a01 a02 a10 a11 a12 a20 a21 a22) := by
  show [[a00 * (D2 a11 a12 a21 a22) + (a01 * (-D2 a10 a12 a20 a22) + (a02 * (D2 a10 a11 a20 a21) + 0)), a00 * (-D2 a01 a02 a21 a22) + (a01 * (D2 a00 a02 a20 a22) + (a02 * (-D2 a00 a01 a20 a21) + 0)), a00 * (D2 a01 a02 a11 a12) + (a01 * (-D2 a00 a02 a10 a12) + (a02 * (D2 a00 a01 a10 a11) + 0))], [a10 * (D2 a11 a12 a21 a22) + (a11 * (-D2 a10 a12 a20 a22) + (a12 * (D2 a10 a11 a20 a21) + 0)), a10 * (-D2 a01 a02 a21 a22) + (a11 * (D2 a00 a02 a20 a22) + (a12 * (-D2 a00 a01 a20 a21) + 0)), a10 * (D2 a01 a02 a11 a12) + (a11 * (-D2 a00 a02 a10 a12) + (a12 * (D2 a00 a01 a10 a11) + 0))], [a20 * (D2 a11 a12 a21 a22) + (a21 * (-D2 a10 a12 a20 a22) + (a22 * (D2 a10 a11 a20 a21) + 0)), a20 * (-D2 a01 a02 a21 a22) + (a21 * (D2 a00 a02 a20 a22) + (a22 * (-D2 a00 a01 a20 a21) + 0)), a20 * (D2 a01 a02 a11 a12) + (a21 * (-D2 a00 a02 a10 a12) + (a22 * (D2 a00 a01 a10 a11) + 0))]] = _
  rw [scal_eq3]
  rw [adj3l00 a00 a01 a02 a10 a11 a12 a20 a21 a22, adj3l01 a00 a01 a02 a10 a11 a12 a20 a21 a22, adj3l02 a00 a01 a02 a10 a11 a12 a20 a21 a22, adj3l10 a00 a01 a02 a10 a11 a12 a20 a21 a22, adj3l11 a00 a01 a02 a10 a11 a12 a20 a21 a22, adj3l12 a00 a01 a02 a10 a11 a12 a20 a21 a22, adj3l20 a00 a01 a02 a10 a11 a12 a20 a21 a22, adj3l21 a00 a01 a02 a10 a11 a12 a20 a21 a22, adj3l22 a00 a01 a02 a10 a11 a12 a20 a21 a22]
theorem adjM3r (a00 a01 a02 a10 a11 a12 a20 a21 a22 : Int) : mulM [[D2 a11 a12 a21 a22, -D2 a01 a02 a21 a22, D2 a01 a02 a11 a12], [-D2 a10 a12 a20 a22, D2 a00 a02 a20 a22, -D2 a00 a02 a10 a12], [D2 a10 a11 a20 a21, -D2 a00 a01 a20 a21, D2 a00 a01 a10 a11]] [[a00, a01, a02], [a10, a11, a12], [a20, a21, a22]] 3 = scalM 3 (D3 a00 a01 a02 a10 a11 a12 a20 a21 a22) := by
  show [[(D2 a11 a12 a21 a22) * a00 + ((-D2 a01 a02 a21 a22) * a10 + ((D2 a01 a02 a11 a12) * a20 + 0)), (D2 a11 a12 a21 a22) * a01 + ((-D2 a01 a02 a21 a22) * a11 + ((D2 a01 a02 a11 a12) * a21 + 0)), (D2 a11 a12 a21 a22) * a02 + ((-D2 a01 a02 a21 a22) * a12 + ((D2 a01 a02 a11 a12) * a22 + 0))], [(-D2 a10 a12 a20 a22) * a00 + ((D2 a00 a02 a20 a22) * a10 + ((-D2 a00 a02 a10 a12) * a20 + 0)), (-D2 a10 a12 a20 a22) * a01 + ((D2 a00 a02 a20 a22) * a11 + ((-D2 a00 a02 a10 a12) * a21 + 0)), (-D2 a10 a12 a20 a22) * a02 + ((D2 a00 a02 a20 a22) * a12 + ((-D2 a00 a02 a10 a12) * a22 + 0))], [(D2 a10 a11 a20 a21) * a00 + ((-D2 a00 a01 a20 a21) * a10 + ((D2 a00 a01 a10 a11) * a20 + 0)), (D2 a10 a11 a20 a21) * a01 + ((-D2 a00 a01 a20 a21) * a11 + ((D2 a00 a01 a10 a11) * a21 + 0)), (D2 a10 a11 a20 a21) * a02 + ((-D2 a00 a01 a20 a21) * a12 + ((D2 a00 a01 a10 a11) * a22 + 0))]] = _
  rw [scal_eq3]
  rw [adj3r00 a00 a01 a02 a10 a11 a12 a20 a21 a22, adj3r01 a00 a01 a02 a10 a11 a12 a20 a21 a22, adj3r02 a00 a01 a02 a10 a11 a12 a20 a21 a22, adj3r10 a00 a01 a02 a10 a11 a12 a20 a21 a22, adj3r11 a00 a01 a02 a10 a11 a12 a20 a21 a22, adj3r12 a00 a01 a02 a10 a11 a12 a20 a21 a22, adj3r20 a00 a01 a02 a10 a11 a12 a20 a21 a22, adj3r21 a00 a01 a02 a10 a11 a12 a20 a21 a22, adj3r22 a00 a01 a02 a10 a11 a12 a20 a21 a22]
theorem mul_eq4 (a00 a01 a02 a03 a10 a11 a12 a13 a20 a21 a22 a23 a30 a31 a32 a33 b00 b01 b02 b03 b10 b11 b12 b13 b20 b21 b22 b23 b30 b31 b32 b33 : Int) : mulM [[a00, a01, a02, a03], [a10, a11, a12, a13], [a20, a21, a22, a23], [a30, a31, a32, a33]] [[b00, b01, b02, b03], [b10, b11, b12, b13], [b20, b21, b22, b23], [b30, b31, b32, b33]] 4 = [[a00 * b00 + (a01 * b10 + (a02 * b20 + (a03 * b30 + 0))), a00 * b01 + (a01 * b11 + (a02 * b21 + (a03 * b31 + 0))), a00 * b02 + (a01 * b12 + (a02 * b22 + (a03 * b32 + 0))), a00 * b03 + (a01 * b13 + (a02 * b23 + (a03 * b33 + 0)))], [a10 * b00 + (a11 * b10 + (a12 * b20 + (a13 * b30 + 0))), a10 * b01 + (a11 * b11 + (a12 * b21 + (a13 * b31 + 0))), a10 * b02 + (a11 * b12 + (a12 * b22 + (a13 * b32 + 0))), a10 * b03 + (a11 * b13 + (a12 * b23 + (a13 * b33 + 0)))], [a20 * b00 + (a21 * b10 + (a22 * b20 + (a23 * b30 + 0))), a20 * b01 + (a21 * b11 + (a22 * b21 + (a23 * b31 + 0))), a20 * b02 + (a21 * b12 + (a22 * b22 + (a23 * b32 + 0))), a20 * b03 + (a21 * b13 + (a22 * b23 + (a23 * b33 + 0)))], [a30 * b00 + (a31 * b10 + (a32 * b20 + (a33 * b30 + 0))), a30 * b01 + (a31 * b11 + (a32 * b21 + (a33 * b31 + 0))), a30 * b02 + (a31 * b12 + (a32 * b22 + (a33 * b32 + 0))), a30 * b03 + (a31 * b13 + (a32 * b23 + (a33 * b33 + 0)))]] := rfl
set_option maxHeartbeats 40000000 in
theorem mulD4 (a00 a01 a02 a03 a10 a11 a12 a13 a20 a21 a22 a23 a30 a31 a32 a33 b00 b01 b02 b03 b10 b11 b12 b13 b20 b21 b22 b23 b30 b31 b32 b33 : Int) : D4 (a00 * b00 + (a01 * b10 + (a02 * b20 + (a03 * b30 + 0)))) (a00 * b01 + (a01 * b11 + (a02 * b21 + (a03 * b31 + 0)))) (a00 * b02 + (a01 * b12 + (a02 * b22 + (a03 * b32 + 0)))) (a00 * b03 + (a01 * b13 + (a02 * b23 + (a03 * b33 + 0)))) (a10 * b00 + (a11 * b10 + (a12 * b20 + (a13 * b30 + 0)))) (a10 * b01 + (a11 * b11 + (a12 * b21 + (a13 * b31 + 0)))) (a10 * b02 + (a11 * b12 + (a12 * b22 + (a13 * b32 + 0)))) (a10 * b03 + (a11 * b13 + (a12 * b23 + (a13 * b33 + 0)))) (a20 * b00 + (a21 * b10 + (a22 * b20 + (a23 * b30 + 0)))) (a20 * b01 + (a21 * b11 + (a22 * b21 + (a23 * b31 + 0)))) (a20 * b02 + (a21 * b12 + (a22 * b22 + (a23 * b32 + 0)))) (a20 * b03 + (a21 * b13 + (a22 * b23 + (a23 * b33 + 0)))) (a30 * b00 + (a31 * b10 + (a32 * b20 + (a33 * b30 + 0)))) (a30 * b01 + (a31 * b11 + (a32 * b21 + (a33 * b31 + 0)))) (a30 * b02 + (a31 * b12 + (a32 * b22 + (a33 * b32 + 0)))) (a30 * b03 + (a31 * b13 + (a32 * b23 + (a33 * b33 + 0)))) = D4 a00 a01 a02 a03 a10 a11 a12 a13 a20 a21 a22 a23 a30 a31 a32 a33 * D4 b00 b01 b02 b03 b10 b11 b12 b13 b20 b21 b22 b23 b30 b31 b32 b33 := by
  unfold D4 D3 D2
  grind
theorem tr_eq4 (a00 a01 a02 a03 a10 a11 a12 a13 a20 a21 a22 a23 a30 a31 a32 a33 : Int) : transp [[a00, a01, a02, a03], [a10, a11, a12, a13], [a20, a21, a22, a23], [a30, a31, a32, a33]] 4 = [[a00, a10, a20, a30], [a01, a11, a21, a31], [a02, a12, a22, a32], [a03, a13, a23, a33]] := rfl
theorem trD4 (a00 a01 a02 a03 a10 a11 a12 a13 a20 a21 a22 a23 a30 a31 a32 a33 : Int) : D4 a00 a10 a20 a30 a01 a11 a21 a31 a02 a12 a22 a32 a03 a13 a23 a33 = D4 a00 a01 a02 a03 a10 a11 a12 a13 a20 a21 a22 a23 a30 a31 a32 a33 := by
  unfold D4 D3 D2
  grind
theorem due_eq4 (a00 a01 a02 a03 a10 a11 a12 a13 a20 a21 a22 a23 a30 a31 a32 a33 : Int) : dueM 4 [[a00, a01, a02, a03], [a10, a11, a12, a13], [a20, a21, a22, a23], [a30, a31, a32, a33]] = [[D3 a11 a12 a13 a21 a22 a23 a31 a32 a33, -D3 a01 a02 a03 a21 a22 a23 a31 a32 a33, D3 a01 a02 a03 a11 a12 a13 a31 a32 a33, -D3 a01 a02 a03 a11 a12 a13 a21 a22 a23], [-D3 a10 a12 a13 a20 a22 a23 a30 a32 a33, D3 a00 a02 a03 a20 a22 a23 a30 a32 a33, -D3 a00 a02 a03 a10 a12 a13 a30 a32 a33, D3 a00 a02 a03 a10 a12 a13 a20 a22 a23], [D3 a10 a11 a13 a20 a21 a23 a30 a31 a33, -D3 a00 a01 a03 a20 a21 a23 a30 a31 a33, D3 a00 a01 a03 a10 a11 a13 a30 a31 a33, -D3 a00 a01 a03 a10 a11 a13 a20 a21 a23], [-D3 a10 a11 a12 a20 a21 a22 a30 a31 a32, D3 a00 a01 a02 a20 a21 a22 a30 a31 a32, -D3 a00 a01 a02 a10 a11 a12 a30 a31 a32, D3 a00 a01 a02 a10 a11 a12 a20 a21 a22]] := by
  show [[sgn (0 + 0) * detL 3 [[a11, a12, a13], [a21, a22, a23], [a31, a32, a33]], sgn (0 + 1) * detL 3 [[a01, a02, a03], [a21, a22, a23], [a31, a32, a33]], sgn (0 + 2) * detL 3 [[a01, a02, a03], [a11, a12, a13], [a31, a32, a33]], sgn (0 + 3) * detL 3 [[a01, a02, a03], [a11, a12, a13], [a21, a22, a23]]], [sgn (1 + 0) * detL 3 [[a10, a12, a13], [a20, a22, a23], [a30, a32, a33]], sgn (1 + 1) * detL 3 [[a00, a02, a03], [a20, a22, a23], [a30, a32, a33]], sgn (1 + 2) * detL 3 [[a00, a02, a03], [a10, a12, a13], [a30, a32, a33]], sgn (1 + 3) * detL 3 [[a00, a02, a03], [a10, a12, a13], [a20, a22, a23]]], [sgn (2 + 0) * detL 3 [[a10, a11, a13], [a20, a21, a23], [a30, a31, a33]], sgn (2 + 1) * detL 3 [[a00, a01, a03], [a20, a21, a23], [a30, a31, a33]], sgn (2 + 2) * detL 3 [[a00, a01, a03], [a10, a11, a13], [a30, a31, a33]], sgn (2 + 3) * detL 3 [[a00, a01, a03], [a10, a11, a13], [a20, a21, a23]]], [sgn (3 + 0) * detL 3 [[a10, a11, a12], [a20, a21, a22], [a30, a31, a32]], sgn (3 + 1) * detL 3 [[a00, a01, a02], [a20, a21, a22], [a30, a31, a32]], sgn (3 + 2) * detL 3 [[a00, a01, a02], [a10, a11, a12], [a30, a31, a32]], sgn (3 + 3) * detL 3 [[a00, a01, a02], [a10, a11, a12], [a20, a21, a22]]]] = _
  simp only [detL3]
  simp only [sgn_even (show (0 + 0) % 2 = 0 from rfl), sgn_odd (show (0 + 1) % 2 = 1 from rfl), sgn_even (show (0 + 2) % 2 = 0 from rfl), sgn_odd (show (0 + 3) % 2 = 1 from rfl), sgn_odd (show (1 + 0) % 2 = 1 from rfl), sgn_even (show (1 + 1) % 2 = 0 from rfl), sgn_odd (show (1 + 2) % 2 = 1 from rfl), sgn_even (show (1 + 3) % 2 = 0 from rfl), sgn_even (show (2 + 0) % 2 = 0 from rfl), sgn_odd (show (2 + 1) % 2 = 1 from rfl), sgn_even (show (2 + 2) % 2 = 0 from rfl), sgn_odd (show (2 + 3) % 2 = 1 from rfl), sgn_odd (show (3 + 0) % 2 = 1 from rfl), sgn_even (show (3 + 1) % 2 = 0 from rfl), sgn_odd (show (3 + 2) % 2 = 1 from rfl), sgn_even (show (3 + 3) % 2 = 0 from rfl), Int.one_mul, Int.neg_mul]
theorem adj4l00 (a00 a01 a02 a03 a10 a11 a12 a13 a20 a21 a22 a23 a30 a31 a32 a33 : Int) : a00 * (D3 a11 a12 a13 a21 a22 a23 a31 a32 a33) + (a01 * (-D3 a10 a12 a13 a20 a22 a23 a30 a32 a33) + (a02 * (D3 a10 a11 a13 a20 a21 a23 a30 a31 a33) + (a03 * (-D3 a10 a11 a12 a20 a21 a22 a30 a31 a32) + 0))) = D4 a00 a01 a02 a03 a10 a11 a12 a13 a20 a21 a22 a23 a30 a31 a32 a33 * 1 := by
  unfold D4 D3 D2
  grind
theorem adj4l01 (a00 a01 a02 a03 a10 a11 a12 a13 a20 a21 a22 a23 a30 a31 a32 a33 : Int) : a00 * (-D3 a01 a02 a03 a21 a22 a23 a31 a32 a33) + (a01 * (D3 a00 a02 a03 a20 a22 a23 a30 a32 a33) + (a02 * (-D3 a00 a01 a03 a20 a21 a23 a30 a31 a33) + (a03 * (D3 a00 a01 a02 a20 a21 a22 a30 a31 a32) + 0))) = D4 a00 a01 a02 a03 a10 a11 a12 a13 a20 a21 a22 a23 a30 a31 a32 a33 * 0 := by
  unfold D4 D3 D2
  grind
theorem adj4l02 (a00 a01 a02 a03 a10 a11 a12 a13 a20 a21 a22 a23 a30 a31 a32 a33 : Int) : a00 * (D3 a01 a02 a03 a11 a12 a13 a31 a32 a33) + (a01 * (-D3 a00 a02 a03 a10 a12 a13 a30 a32 a33) + (a02 * (D3 a00 a01 a03 a10 a11 a13 a30 a31 a33) + (a03 * (-D3 a00 a01 a02 a10 a11 a12 a30 a31 a32) + 0))) = D4 a00 a01 a02 a03 a10 a11 a12 a13 a20 a21 a22 a23 a30 a31 a32 a33 * 0 := by
  unfold D4 D3 D2
  grind
theorem adj4l03 (a00 a01 a02 a03 a10 a11 a12 a13 a20 a21 a22 a23 a30 a31 a32 a33 : Int) : a00 * (-D3 a01 a02 a03 a11 a12 a13 a21 a22 a23) + (a01 * (D3 a00 a02 a03 a10 a12 a13 a20 a22 a23) + (a02 * (-D3 a00 a01 a03 a10 a11 a13 a20 a21 a23) + (a03 * (D3 a00 a01 a02 a10 a11 a12 a20 a21 a22) + 0))) = D4 a00 a01 a02 a03 a10 a11 a12 a13 a20 a21 a22 a23 a30 a31 a32 a33 * 0 := by
  unfold D4 D3 D2
  grind
theorem adj4l10 (a00 a01 a02 a03 a10 a11 a12 a13 a20 a21 a22 a23 a30 a31 a32 a33 : Int) : a10 * (D3 a11 a12 a13 a21 a22 a23 a31 a32 a33) + (a11 * (-D3 a10 a12 a13 a20 a22 a23 a30 a32 a33) + (a12 * (D3 a10 a11 a13 a20 a21 a23 a30 a31 a33) + (a13 * (-D3 a10 a11 a12 a20 a21 a22 a30 a31 a32) + 0))) = D4 a00 a01 a02 a03 a10 a11 a12 a13 a20 a21 a22 a23 a30 a31 a32 a33 * 0 := by
  unfold D4 D3 D2
  grind
theorem adj4l11 (a00 a01 a02 a03 a10 a11 a12 a13 a20 a21 a22 a23 a30 a31 a32 a33 : Int) : a10 * (-D3 a01 a02 a03 a21 a22 a23 a31 a32 a33) + (a11 * (D3 a00 a02 a03 a20 a22 a23 a30 a32 a33) + (a12 * (-D3 a00 a01 a03 a20 a21 a23 a30 a31 a33) + (a13 * (D3 a00 a01 a02 a20 a21 a22 a30 a31 a32) + 0))) = D4 a00 a01 a02 a03 a10 a11 a12 a13 a20 a21 a22 a23 a30 a31 a32 a33 * 1 := by
  unfold D4 D3 D2
  grind
theorem adj4l12 (a00 a01 a02 a03 a10 a11 a12 a13 a20 a21 a22 a23 a30 a31 a32 a33 : Int) : a10 * (D3 a01 a02 a03 a11 a12 a13 a31 a32 a33) + (a11 * (-D3 a00 a02 a03 a10 a12 a13 a30 a32 a33) + (a12 * (D3 a00 a01 a03 a10 a11 a13 a30 a31 a33) + (a13 * (-D3 a00 a01 a02 a10 a11 a12 a30 a31 a32) + 0))) = D4 a00 a01 a02 a03 a10 a11 a12 a13 a20 a21 a22 a23 a30 a31 a32 a33 * 0 := by
  unfold D4 D3 D2
  grind
theorem adj4l13 (a00 a01 a02 a03 a10 a11 a12 a13 a20 a21 a22 a23 a30 a31 a32 a33 : Int) : a10 * (-D3 a01 a02 a03 a11 a12 a13 a21 a22 a23) + (a11 * (D3 a00 a02 a03 a10 a12 a13 a20 a22 a23) + (a12 * (-D3 a00 a01 a03 a10 a11 a13 a20 a21 a23) + (a13 * (D3 a00 a01 a02 a10 a11 a12 a20 a21 a22) + 0))) = D4 a00 a01 a02 a03 a10 a11 a12 a13 a20 a21 a22 a23 a30 a31 a32 a33 * 0 := by
  unfold D4 D3 D2
  grind
theorem adj4l20 (a00 a01 a02 a03 a10 a11 a12 a13 a20 a21 a22 a23 a30 a31 a32 a33 : Int) : a20 * (D3 a11 a12 a13 a21 a22 a23 a31 a32 a33) + (a21 * (-D3 a10 a12 a13 a20 a22 a23 a30 a32 a33) + (a22 * (D3 a10 a11 a13 a20 a21 a23 a30 a31 a33) + (a23 * (-D3 a10 a11 a12 a20 a21 a22 a30 a31 a32) + 0))) = D4 a00 a01 a02 a03 a10 a11 a12 a13 a20 a21 a22 a23 a30 a31 a32 a33 * 0 := by
  unfold D4 D3 D2
  grind
theorem adj4l21 (a00 a01 a02 a03 a10 a11 a12 a13 a20 a21 a22 a23 a30 a31 a32 a33 : Int) : a20 * (-D3 a01 a02 a03 a21 a22 a23 a31 a32 a33) + (a21 * (D3 a00 a02 a03 a20 a22 a23 a30 a32 a33) + (a22 * (-D3 a00 a01 a03 a20 a21 a23 a30 a31 a33) + (a23 * (D3 a00 a01 a02 a20 a21 a22 a30 a31 a32) + 0))) = D4 a00 a01 a02 a03 a10 a11 a12 a13 a20 a21 a22 a23 a30 a31 a32 a33 * 0 := by
  unfold D4 D3 D2
  grind
theorem adj4l22 (a00 a01 a02 a03 a10 a11 a12 a13 a20 a21 a22 a23 a30 a31 a32 a33 : Int) : a20 * (D3 a01 a02 a03 a11 a12 a13 a31 a32 a33) + (a21 * (-D3 a00 a02 a03 a10 a12 a13 a30 a32 a33) + (a22 * (D3 a00 a01 a03 a10 a11 a13 a30 a31 a33) + (a23 * (-D3 a00 a01 a02 a10 a11 a12 a30 a31 a32) + 0))) = D4 a00 a01 a02 a03 a10 a11 a12 a13 a20 a21 a22 a23 a30 a31 a32 a33 * 1 := by
  unfold D4 D3 D2
  grind
theorem adj4l23 (a00 a01 a02 a03 a10 a11 a12 a13 a20 a21 a22 a23 a30 a31 a32 a33 : Int) : a20 * (-D3 a01 a02 a03 a11 a12 a13 a21 a22 a23) + (a21 * (D3 a00 a02 a03 a10 a12 a13 a20 a22 a23) + (a22 * (-D3 a00 a01 a03 a10 a11 a13 a20 a21 a23) + (a23 * (D3 a00 a01 a02 a10 a11 a12 a20 a21 a22) + 0))) = D4 a00 a01 a02 a03 a10 a11 a12 a13 a20 a21 a22 a23 a30 a31 a32 a33 * 0 := by
  unfold D4 D3 D2
  grind
theorem adj4l30 (a00 a01 a02 a03 a10 a11 a12 a13 a20 a21 a22 a23 a30 a31 a32 a33 : Int) : a30 * (D3 a11 a12 a13 a21 a22 a23 a31 a32 a33) + (a31 * (-D3 a10 a12 a13 a20 a22 a23 a30 a32 a33) + (a32 * (D3 a10 a11 a13 a20 a21 a23 a30 a31 a33) + (a33 * (-D3 a10 a11 a12 a20 a21 a22 a30 a31 a32) + 0))) = D4 a00 a01 a02 a03 a10 a11 a12 a13 a20 a21 a22 a23 a30 a31 a32 a33 * 0 := by
  unfold D4 D3 D2
  grind
theorem adj4l31 (a00 a01 a02 a03 a10 a11 a12 a13 a20 a21 a22 a23 a30 a31 a32 a33 : Int) : a30 * (-D3 a01 a02 a03 a21 a22 a23 a31 a32 a33) + (a31 * (D3 a00 a02 a03 a20 a22 a23 a30 a32 a33) + (a32 * (-D3 a00 a01 a03 a20 a21 a23 a30 a31 a33) + (a33 * (D3 a00 a01 a02 a20 a21 a22 a30 a31 a32) + 0))) = D4 a00 a01 a02 a03 a10 a11 a12 a13 a20 a21 a22 a23 a30 a31 a32 a33 * 0 := by
  unfold D4 D3 D2
  grind
theorem adj4l32 (a00 a01 a02 a03 a10 a11 a12 a13 a20 a21 a22 a23 a30 a31 a32 a33 : Int) : a30 * (D3 a01 a02 a03 a11 a12 a13 a31 a32 a33) + (a31 * (-D3 a00 a02 a03 a10 a12 a13 a30 a32 a33) + (a32 * (D3 a00 a01 a03 a10 a11 a13 a30 a31 a33) + (a33 * (-D3 a00 a01 a02 a10 a11 a12 a30 a31 a32) + 0))) = D4 a00 a01 a02 a03 a10 a11 a12 a13 a20 a21 a22 a23 a30 a31 a32 a33 * 0 := by
  unfold D4 D3 D2
  grind
theorem adj4l33 (a00 a01 a02 a03 a10 a11 a12 a13 a20 a21 a22 a23 a30 a31 a32 a33 : Int) : a30 * (-D3 a01 a02 a03 a11 a12 a13 a21 a22 a23) + (a31 * (D3 a00 a02 a03 a10 a12 a13 a20 a22 a23) + (a32 * (-D3 a00 a01 a03 a10 a11 a13 a20 a21 a23) + (a33 * (D3 a00 a01 a02 a10 a11 a12 a20 a21 a22) + 0))) = D4 a00 a01 a02 a03 a10 a11 a12 a13 a20 a21 a22 a23 a30 a31 a32 a33 * 1 := by
  unfold D4 D3 D2
  grind
theorem adj4r00 (a00 a01 a02 a03 a10 a11 a12 a13 a20 a21 a22 a23 a30 a31 a32 a33 : Int) : (D3 a11 a12 a13 a21 a22 a23 a31 a32 a33) * a00 + ((-D3 a01 a02 a03 a21 a22 a23 a31 a32 a33) * a10 + ((D3 a01 a02 a03 a11 a12 a13 a31 a32 a33) * a20 + ((-D3 a01 a02 a03 a11 a12 a13 a21 a22 a23) * a30 + 0))) = D4 a00 a01 a02 a03 a10 a11 a12 a13 a20 a21 a22 a23 a30 a31 a32 a33 * 1 := by
  unfold D4 D3 D2
  grind
theorem adj4r01 (a00 a01 a02 a03 a10 a11 a12 a13 a20 a21 a22 a23 a30 a31 a32 a33 : Int) : (D3 a11 a12 a13 a21 a22 a23 a31 a32 a33) * a01 + ((-D3 a01 a02 a03 a21 a22 a23 a31 a32 a33) * a11 + ((D3 a01 a02 a03 a11 a12 a13 a31 a32 a33) * a21 + ((-D3 a01 a02 a03 a11 a12 a13 a21 a22 a23) * a31 + 0))) = D4 a00 a01 a02 a03 a10 a11 a12 a13 a20 a21 a22 a23 a30 a31 a32 a33 * 0 := by
  unfold D4 D3 D2
  grind
theorem adj4r02 (a00 a01 a02 a03 a10 a11 a12 a13 a20 a21 a22 a23 a30 a31 a32 a33 : Int) : (D3 a11 a12 a13 a21 a22 a23 a31 a32 a33) * a02 + ((-D3 a01 a02 a03 a21 a22 a23 a31 a32 a33) * a12 + ((D3 a01 a02 a03 a11 a12 a13 a31 a32 a33) * a22 + ((-D3 a01 a02 a03 a11 a12 a13 a21 a22 a23) * a32 + 0))) = D4 a00 a01 a02 a03 a10 a11 a12 a13 a20 a21 a22 a23 a30 a31 a32 a33 * 0 := by
  unfold D4 D3 D2
  grind
theorem adj4r03 (a00 a01 a02 a03 a10 a11 a12 a13 a20 a21 a22 a23 a30 a31 a32 a33 : Int) : (D3 a11 a12 a13 a21 a22 a23 a31 a32 a33) * a03 + ((-D3 a01 a02 a03 a21 a22 a23 a31 a32 a33) * a13 + ((D3 a01 a02 a03 a11 a12 a13 a31 a32 a33) * a23 + ((-D3 a01 a02 a03 a11 a12 a13 a21 a22 a23) * a33 + 0))) = D4 a00 a01 a02 a03 a10 a11 a12 a13 a20 a21 a22 a23 a30 a31 a32 a33 * 0 := by
  unfold D4 D3 D2
  grind
theorem adj4r10 (a00 a01 a02 a03 a10 a11 a12 a13 a20 a21 a22 a23 a30 a31 a32 a33 : Int) : (-D3 a10 a12 a13 a20 a22 a23 a30 a32 a33) * a00 + ((D3 a00 a02 a03 a20 a22 a23 a30 a32 a33) * a10 + ((-D3 a00 a02 a03 a10 a12 a13 a30 a32 a33) * a20 + ((D3 a00 a02 a03 a10 a12 a13 a20 a22 a23) * a30 + 0))) = D4 a00 a01 a02 a03 a10 a11 a12 a13 a20 a21 a22 a23 a30 a31 a32 a33 * 0 := by
  unfold D4 D3 D2
  grind
theorem adj4r11 (a00 a01 a02 a03 a10 a11 a12 a13 a20 a21 a22 a23 a30 a31 a32 a33 : Int) : (-D3 a10 a12 a13 a20 a22 a23 a30 a32 a33) * a01 + ((D3 a00 a02 a03 a20 a22 a23 a30 a32 a33) * a11 + ((-D3 a00 a02 a03 a10 a12 a13 a30 a32 a33) * a21 + ((D3 a00 a02 a03 a10 a12 a13 a20 a22 a23) * a31 + 0))) = D4 a00 a01 a02 a03 a10 a11 a12 a13 a20 a21 a22 a23 a30 a31 a32 a33 * 1 := by
  unfold D4 D3 D2
  grind
theorem adj4r12 (a00 a01 a02 a03 a10 a11 a12 a13 a20 a21 a22 a23 a30 a31 a32 a33 : Int) : (-D3 a10 a12 a13 a20 a22 a23 a30 a32 a33) * a02 + ((D3 a00 a02 a03 a20 a22 a23 a30 a32 a33) * a12 + ((-D3 a00 a02 a03 a10 a12 a13 a30 a32 a33) * a22 + ((D3 a00 a02 a03 a10 a12 a13 a20 a22 a23) * a32 + 0))) = D4 a00 a01 a02 a03 a10 a11 a12 a13 a20 a21 a22 a23 a30 a31 a32 a33 * 0 := by
  unfold D4 D3 D2
  grind
theorem adj4r13 (a00 a01 a02 a03 a10 a11 a12 a13 a20 a21 a22 a23 a30 a31 a32 a33 : Int) : (-D3 a10 a12 a13 a20 a22 a23 a30 a32 a33) * a03 + ((D3 a00 a02 a03 a20 a22 a23 a30 a32 a33) * a13 + ((-D3 a00 a02 a03 a10 a12 a13 a30 a32 a33) * a23 + ((D3 a00 a02 a03 a10 a12 a13 a20 a22 a23) * a33 + 0))) = D4 a00 a01 a02 a03 a10 a11 a12 a13 a20 a21 a22 a23 a30 a31 a32 a33 * 0 := by
  unfold D4 D3 D2
  grind
theorem adj4r20 (a00 a01 a02 a03 a10 a11 a12 a13 a20 a21 a22 a23 a30 a31 a32 a33 : Int) : (D3 a10 a11 a13 a20 a21 a23 a30 a31 a33) * a00 + ((-D3 a00 a01 a03 a20 a21 a23 a30 a31 a33) * a10 + ((D3 a00 a01 a03 a10 a11 a13 a30 a31 a33) * a20 + ((-D3 a00 a01 a03 a10 a11 a13 a20 a21 a23) * a30 + 0))) = D4 a00 a01 a02 a03 a10 a11 a12 a13 a20 a21 a22 a23 a30 a31 a32 a33 * 0 := by
  unfold D4 D3 D2
  grind
theorem adj4r21 (a00 a01 a02 a03 a10 a11 a12 a13 a20 a21 a22 a23 a30 a31 a32 a33 : Int) : (D3 a10 a11 a13 a20 a21 a23 a30 a31 a33) * a01 + ((-D3 a00 a01 a03 a20 a21 a23 a30 a31 a33) * a11 + ((D3 a00 a01 a03 a10 a11 a13 a30 a31 a33) * a21 + ((-D3 a00 a01 a03 a10 a11 a13 a20 a21 a23) * a31 + 0))) = D4 a00 a01 a02 a03 a10 a11 a12 a13 a20 a21 a22 a23 a30 a31 a32 a33 * 0 := by
  unfold D4 D3 D2
  grind
theorem adj4r22 (a00 a01 a02 a03 a10 a11 a12 a13 a20 a21 a22 a23 a30 a31 a32 a33 : Int) : (D3 a10 a11 a13 a20 a21 a23 a30 a31 a33) * a02 + ((-D3 a00 a01 a03 a20 a21 a23 a30 a31 a33) * a12 + ((D3 a00 a01 a03 a10 a11 a13 a30 a31 a33) * a22 + ((-D3 a00 a01 a03 a10 a11 a13 a20 a21 a23) * a32 + 0))) = D4 a00 a01 a02 a03 a10 a11 a12 a13 a20 a21 a22 a23 a30 a31 a32 a33 * 1 := by
  unfold D4 D3 D2
  grind
theorem adj4r23 (a00 a01 a02 a03 a10 a11 a12 a13 a20 a21 a22 a23 a30 a31 a32 a33 : Int) : (D3 a10 a11 a13 a20 a21 a23 a30 a31 a33) * a03 + ((-D3 a00 a01 a03 a20 a21 a23 a30 a31 a33) * a13 + ((D3 a00 a01 a03 a10 a11 a13 a30 a31 a33) * a23 + ((-D3 a00 a01 a03 a10 a11 a13 a20 a21 a23) * a33 + 0))) = D4 a00 a01 a02 a03 a10 a11 a12 a13 a20 a21 a22 a23 a30 a31 a32 a33 * 0 := by
  unfold D4 D3 D2
  grind
theorem adj4r30 (a00 a01 a02 a03 a10 a11 a12 a13 a20 a21 a22 a23 a30 a31 a32 a33 : Int) : (-D3 a10 a11 a12 a20 a21 a22 a30 a31 a32) * a00 + ((D3 a00 a01 a02 a20 a21 a22 a30 a31 a32) * a10 + ((-D3 a00 a01 a02 a10 a11 a12 a30 a31 a32) * a20 + ((D3 a00 a01 a02 a10 a11 a12 a20 a21 a22) * a30 + 0))) = D4 a00 a01 a02 a03 a10 a11 a12 a13 a20 a21 a22 a23 a30 a31 a32 a33 * 0 := by
  unfold D4 D3 D2
  grind
theorem adj4r31 (a00 a01 a02 a03 a10 a11 a12 a13 a20 a21 a22 a23 a30 a31 a32 a33 : Int) : (-D3 a10 a11 a12 a20 a21 a22 a30 a31 a32) * a01 + ((D3 a00 a01 a02 a20 a21 a22 a30 a31 a32) * a11 + ((-D3 a00 a01 a02 a10 a11 a12 a30 a31 a32) * a21 + ((D3 a00 a01 a02 a10 a11 a12 a20 a21 a22) * a31 + 0))) = D4 a00 a01 a02 a03 a10 a11 a12 a13 a20 a21 a22 a23 a30 a31 a32 a33 * 0 := by
  unfold D4 D3 D2
  grind
theorem adj4r32 (a00 a01 a02 a03 a10 a11 a12 a13 a20 a21 a22 a23 a30 a31 a32 a33 : Int) : (-D3 a10 a11 a12 a20 a21 a22 a30 a31 a32) * a02 + ((D3 a00 a01 a02 a20 a21 a22 a30 a31 a32) * a12 + ((-D3 a00 a01 a02 a10 a11 a12 a30 a31 a32) * a22 + ((D3 a00 a01 a02 a10 a11 a12 a20 a21 a22) * a32 + 0))) = D4 a00 a01 a02 a03 a10 a11 a12 a13 a20 a21 a22 a23 a30 a31 a32 a33 * 0 := by
  unfold D4 D3 D2
  grind
theorem adj4r33 (a00 a01 a02 a03 a10 a11 a12 a13 a20 a21 a22 a23 a30 a31 a32 a33 : Int) : (-D3 a10 a11 a12 a20 a21 a22 a30 a31 a32) * a03 + ((D3 a00 a01 a02 a20 a21 a22 a30 a31 a32) * a13 + ((-D3 a00 a01 a02 a10 a11 a12 a30 a31 a32) * a23 + ((D3 a00 a01 a02 a10 a11 a12 a20 a21 a22) * a33 + 0))) = D4 a00 a01 a02 a03 a10 a11 a12 a13 a20 a21 a22 a23 a30 a31 a32 a33 * 1 := by
  unfold D4 D3 D2
  grind
theorem scal_eq4 (d : Int) : scalM 4 d = [[d * 1, d * 0, d * 0, d * 0], [d * 0, d * 1, d * 0, d * 0], [d * 0, d * 0, d * 1, d * 0], [d * 0, d * 0, d * 0, d * 1]] := rfl
theorem adjM4l (a00 a01 a02 a03 a10 a11 a12 a13 a20 a21 a22 a23 a30 a31 a32 a33 : Int) : mulM [[a00, a01, a02, a03], [a10, a11, a12, a13], [a20, a21, a22, a23], [a30, a31, a32, a33]] [[D3 a11 a12 a13 a21 a22 a23 a31 a32 a33, -D3 a01 a02 a03 a21 a22 a23 a31 a32 a33, D3 a01 a02 a03 a11 a12 a13 a31 a32 a33, -D3 a01 a02 a03 a11 a12 a13 a21 a22 a23], [-D3 a10 a12 a13 a20 a22 a23 a30 a32 a33, D3 a00 a02 a03 a20 a22 a23 a30 a32 a33, -D3 a00 a02 a03 a10 a12 a13 a30 a32 a33, D3 a00 a02 a03 a10 a12 a13 a20 a22 a23], [D3 a10 a11 a13 a20 a21 a23 a30 a31 a33, -D3 a00 a01 a03 a20 a21 a23 a30 a31 a33, D3 a00 a01 a03 a10 a11 a13 a30 a31 a33, -D3 a00 a01 a03 a10 a11 a13 a20 a21 a23], [-D3 a10 a11 a12 a20 a21 a22 a30 a31 a32, D3 a00 a01 a02 a20 a21 a22 a30 a31 a32, -D3 a00 a01 a02 a10 a11 a12 a30 a31 a32, D3 a00 a01 a02 a10 a11 a12 a20 a21 a22]] 4 = scalM 4 (D4 a00 a01 a02 a03 a10 a11 a12 a13 a20 a21 a22 a23 a30 a31 a32 a33) := by
  show [[a00 * (D3 a11 a12 a13 a21 a22 a23 a31 a32 a33) + (a01 * (-D3 a10 a12 a13 a20 a22 a23 a30 a32 a33) + (a02 * (D3 a10 a11 a13 a20 a21 a23 a30 a31 a33) + (a03 * (-D3 a10 a11 a12 a20 a21 a22 a30 a31 a32) + 0))), a00 * (-D3 a01 a02 a03 a21 a22 a23 a31 a32 a33) + (a01 * (D3 a00 a02 a03 a20 a22 a23 a30 a32 a33) + (a02 * (-D3 a00 a01 a03 a20 a21 a23 a30 a31 a33) + (a03 * (D3 a00 a01 a02 a20 a21 a22 a30 a31 a32) + 0))), a00 * (D3 a01 a02 a03 a11 a12 a13 a31 a32 a33) + (a01 * (-D3 a00 a02 a03 a10 a12 a13 a30 a32 a33) + (a02 * (D3 a00 a01 a03 a10 a11 a13 a30 a31 a33) + (a03 * (-D3 a00 a01 a02 a10 a11 a12 a30 a31 a32) + 0))), a00 * (-D3 a01 a02 a03 a11 a12 a13 a21 a22 a23) + (a01 * (D3 a00 a02 a03 a10 a12 a13 a20 a22 a23) + (a02 * (-D3 a00 a01 a03 a10 a11 a13 a20 a21 a23) + (a03 * (D3 a00 a01 a02 a10 a11 a12 a20 a21 a22) + 0)))], [a10 * (D3 a11 a12 a13 a21 a22 a23 a31 a32 a33) + (a11 * (-D3 a10 a12 a13 a20 a22 a23 a30 a32 a33) + (a12 * (D3 a10 a11 a13 a20 a21 a23 a30 a31 a33) + (a13 * (-D3 a10 a11 a12 a20 a21 a22 a30 a31 a32) + 0))), a10 * (-D3 a01 a02 a03 a21 a22 a23 a31 a32 a33) + (a11 * (D3 a00 a02 a03 a20 a22 a23 a30 a32 a33) + (a12 * (-D3 a00 a01 a03 a20 a21 a23 a30 a31 a33) + (a13 * (D3 a00 a01 a02 a20 a21 a22 a30 a31 a32) + 0))), a10 * (D3 a01 a02 a03 a11 a12 a13 a31 a32 a33) + (a11 * (-D3 a00 a02 a03 a10 a12 a13 a30 a32 a33) + (a12 * (D3 a00 a01 a03 a10 a11 a13 a30 a31 a33) + (a13 * (-D3 a00 a01 a02 a10 a11 a12 a30 a31 a32) + 0))), a10 * (-D3 a01 a02 a03 a11 a12 a13 a21 a22 a23) + (a11 * (D3 a00 a02 a03 a10 a12 a13 a20 a22 a23) + (a12 * (-D3 a00 a01 a03 a10 a11 a13 a20 a21 a23) + (a13 * (D3 a00 a01 a02 a10 a11 a12 a20 a21 a22) + 0)))], [a20 * (D3 a11 a12 a13 a21 a22 a23 a31 a32 a33) + (a21 * (-D3 a10 a12 a13 a20 a22 a23 a30 a32 a33) + (a22 * (D3 a10 a11 a13 a20 a21 a23 a30 a31 a33) + (a23 * (-D3 a10 a11 a12 a20 a21 a22 a30 a31 a32) + 0))), a20 * (-D3 a01 a02 a03 a21 a22 a23 a31 a32 a33) + (a21 * (D3 a00 a02 a03 a20 a22 a23 a30 a32 a33) + (a22 * (-D3 a00 a01 a03 a20 a21 a23 a30 a31 a33) + (a23 * (D3 a00 a01 a02 a20 a21 a22 a30 a31 a32) + 0))), a20 * (D3 a01 a02 a03 a11 a12 a13 a31 a32 a33) + (a21 * (-D3 a00 a02 a03 a10 a12 a13 a30 a32 a33) + (a22 * (D3 a00 a01 a03 a10 a11 a13 a30 a31 a33) + (a23 * (-D3 a00 a01 a02 a10 a11 a12 a30 a31 a32) + 0))), a20 * (-D3 a01 a02 a03 a11 a12 a13 a21 a22 a23) + (a21 * (D3 a00 a02 a03 a10 a12 a13 a20 a22 a23) + (a22 * (-D3 a00 a01 a03 a10 a11 a13 a20 a21 a23) + (a23 * (D3 a00 a01 a02 a10 a11 a12 a20 a21 a22) + 0)))], [a30 * (D3 a11 a12 a13 a21 a22 a23 a31 a32 a33) + (a31 * (-D3 a10 a12 a13 a20 a22 a23 a30 a32 a33) + (a32 * (D3 a10 a11 a13 a20 a21 a23 a30 a31 a33) + (a33 * (-D3 a10 a11 a12 a20 a21 a22 a30 a31 a32) + 0))), a30 * (-D3 a01 a02 a03 a21 a22 a23 a31 a32 a33) + (a31 * (D3 a00 a02 a03 a20 a22 a23 a30 a32 a33) + (a32 * (-D3 a00 a01 a03 a20 a21 a23 a30 a31 a33) + (a33 * (D3 a00 a01 a02 a20 a21 a22 a30 a31 a32) + 0))), a30 * (D3 a01 a02 a03 a11 a12 a13 a31 a32 a33) + (a31 * (-D3 a00 a02 a03 a10 a12 a13 a30 a32 a33) + (a32 * (D3 a00 a01 a03 a10 a11 a13 a30 a31 a33) + (a33 * (-D3 a00 a01 a02 a10 a11 a12 a30 a31 a32) + 0))), a30 * (-D3 a01 a02 a03 a11 a12 a13 a21 a22 a23) + (a31 * (D3 a00 a02 a03 a10 a12 a13 a20 a22 a23) + (a32 * (-D3 a00 a01 a03 a10 a11 a13 a20 a21 a23) + (a33 * (D3 a00 a01 a02 a10 a11 a12 a20 a21 a22) + 0)))]] = _
  rw [scal_eq4]
  rw [adj4l00 a00 a01 a02 a03 a10 a11 a12 a13 a20 a21 a22 a23 a30 a31 a32 a33, adj4l01 a00 a01 a02 a03 a10 a11 a12 a13 a20 a21 a22 a23 a30 a31 a32 a33, adj4l02 a00 a01 a02 a03 a10 a11 a12 a13 a20 a21 a22 a23 a30 a31 a32 a33, adj4l03 a00 a01 a02 a03 a10 a11 a12 a13 a20 a21 a22 a23 a30 a31 a32 a33, adj4l10 a00 a01 a02 a03 a10 a11 a12 a13 a20 a21 a22 a23 a30 a31 a32 a33, adj4l11 a00 a01 a02 a03 a10 a11 a12 a13 a20 a21 a22 a23 a30 a31 a32 a33, adj4l12 a00 a01 a02 a03 a10 a11 a12 a13 a20 a21 a22 a23 a30 a31 a32 a33, adj4l13 a00 a01 a02 a03 a10 a11 a12 a13 a20 a21 a22 a23 a30 a31 a32 a33, adj4l20 a00 a01 a02 a03 a10 a11 a12 a13 a20 a21 a22 a23 a30 a31 a32 a33, adj4l21 a00 a01 a02 a03 a10 a11 a12 a13 a20 a21 a22 a23 a30 a31 a32 a33, adj4l22 a00 a01 a02 a03 a10 a11 a12 a13 a20 a21 a22 a23 a30 a31 a32 a33, adj4l23 a00 a01 a02 a03 a10 a11 a12 a13 a20 a21 a22 a23 a30 a31 a32 a33, adj4l30 a00 a01 a02 a03 a10 a11 a12 a13 a20 a21 a22 a23 a30 a31 a32 a33, adj4l31 a00 a01 a02 a03 a10 a11 a12 a13 a20 a21 a22 a23 a30 a31 a32 a33, adj4l32 a00 a01 a02 a03 a10 a11 a12 a13 a20 a21 a22 a23 a30 a31 a32 a33, adj4l33 a00 a01 a02 a03 a10 a11 a12 a13 a20 a21 a22 a23 a30 a31 a32 a33]
theorem adjM4r (a00 a01 a02 a03 a10 a11 a12 a13 a20 a21 a22 a23 a30 a31 a32 a33 : Int) : mulM [[D3 a11 a12 a13 a21 a22 a23 a31 a32 a33, -D3 a01 a02 a03 a21 a22 a23 a31 a32 a33, D3 a01 a02 a03 a11 a12 a13 a31 a32 a33, -D3 a01 a02 a03 a11 a12 a13 a21 a22 a23], [-D3 a10 a12 a13 a20 a22 a23 a30 a32 a33, D3 a00 a02 a03 a20 a22 a23 a30 a32 a33, -D3 a00 a02 a03 a10 a12 a13 a30 a32 a33, D3 a00 a02 a03 a10 a12 a13 a20 a22 a23], [D3 a10 a11 a13 a20 a21 a23 a30 a31 a33, -D3 a00 a01 a03 a20 a21 a23 a30 a31 a33, D3 a00 a01 a03 a10 a11 a13 a30 a31 a33, -D3 a00 a01 a03 a10 a11 a13 a20 a21 a23], [-D3 a10 a11 a12 a20 a21 a22 a30 a31 a32, D3 a00 a01 a02 a20 a21 a22 a30 a31 a32, -D3 a00 a01 a02 a10 a11 a12 a30 a31 a32, D3 a00 a01 a02 a10 a11 a12 a20 a21 a22]] [[a00, a01, a02, a03], [a10, a11, a12, a13], [a20, a21, a22, a23], [a30, a31, a32, a33]] 4 = scalM 4 (D4 a00 a01 a02 a03 a10 a11 a12 a13 a20 a21 a22 a23 a30 a31 a32 a33) := by
  show [[(D3 a11 a12 a13 a21 a22 a23 a31 a32 a33) * a00 + ((-D3 a01 a02 a03 a21 a22 a23 a31 a32 a33) * a10 + ((D3 a01 a02 a03 a11 a12 a13 a31 a32 a33) * a20 + ((-D3 a01 a02 a03 a11 a12 a13 a21 a22 a23) * a30 + 0))), (D3 a11 a12 a13 a21 a22 a23 a31 a32 a33) * a01 + ((-D3 a01 a02 a03 a21 a22 a23 a31 a32 a33) * a11 + ((D3 a01 a02 a03 a11 a12 a13 a31 a32 a33) * a21 + ((-D3 a01 a02 a03 a11 a12 a13 a21 a22 a23) * a31 + 0))), (D3 a11 a12 a13 a21 a22 a23 a31 a32 a33) * a02 + ((-D3 a01 a02 a03 a21 a22 a23 a31 a32 a33) * a12 + ((D3 a01 a02 a03 a11 a12 a13 a31 a32 a33) * a22 + ((-D3 a01 a02 a03 a11 a12 a13 a21 a22 a23) * a32 + 0))), (D3 a11 a12 a13 a21 a22 a23 a31 a32 a33) * a03 + ((-D3 a01 a02 a03 a21 a22 a23 a31 a32 a33) * a13 + ((D3 a01 a02 a03 a11 a12 a13 a31 a32 a33) * a23 + ((-D3 a01 a02 a03 a11 a12 a13 a21 a22 a23) * a33 + 0)))], [(-D3 a10 a12 a13 a20 a22 a23 a30 a32 a33) * a00 + ((D3 a00 a02 a03 a20 a22 a23 a30 a32 a33) * a10 + ((-D3 a00 a02 a03 a10 a12 a13 a30 a32 a33) * a20 + ((D3 a00 a02 a03 a10 a12 a13 a20 a22 a23) * a30 + 0))), (-D3 a10 a12 a13 a20 a22 a23 a30 a32 a33) * a01 + ((D3 a00 a02 a03 a20 a22 a23 a30 a32 a33) * a11 + ((-D3 a00 a02 a03 a10 a12 a13 a30 a32 a33) * a21 + ((D3 a00 a02 a03 a10 a12 a13 a20 a22 a23) * a31 + 0))), (-D3 a10 a12 a13 a20 a22 a23 a30 a32 a33) * a02 + ((D3 a00 a02 a03 a20 a22 a23 a30 a32 a33) * a12 + ((-D3 a00 a02 a03 a10 a12 a13 a30 a32 a33) * a22 + ((D3 a00 a02 a03 a10 a12 a13 a20 a22 a23) * a32 + 0))), (-D3 a10 a12 a13 a20 a22 a23 a30 a32 a33) * a03 + ((D3 a00 a02 a03 a20 a22 a23 a30 a32 a33) * a13 + ((-D3 a00 a02 a03 a10 a12 a13 a30 a32 a33) * a23 + ((D3 a00 a02 a03 a10 a12 a13 a20 a22 a23) * a33 + 0)))], [(D3 a10 a11 a13 a20 a21 a23 a30 a31 a33) * a00 + ((-D3 a00 a01 a03 a20 a21 a23 a30 a31 a33) * a10 + ((D3 a00 a01 a03 a10 a11 a13 a30 a31 a33) * a20 + ((-D3 a00 a01 a03 a10 a11 a13 a20 a21 a23) * a30 + 0))), (D3 a10 a11 a13 a20 a21 a23 a30 a31 a33) * a01 + ((-D3 a00 a01 a03 a20 a21 a23 a30 a31 a33) * a11 + ((D3 a00 a01 a03 a10 a11 a13 a30 a31 a33) * a21 + ((-D3 a00 a01 a03 a10 a11 a13 a20 a21 a23) * a31 + 0))), (D3 a10 a11 a13 a20 a21 a23 a30 a31 a33) * a02 + ((-D3 a00 a01 a03 a20 a21 a23 a30 a31 a33) * a12 + ((D3 a00 a01 a03 a10 a11 a13 a30 a31 a33) * a22 + ((-D3 a00 a01 a03 a10 a11 a13 a20 a21 a23) * a32 + 0))), (D3 a10 a11 a13 a20 a21 a23 a30 a31 a33) * a03 + ((-D3 a00 a01 a03 a20 a21 a23 a30 a31 a33) * a13 + ((D3 a00 a01 a03 a10 a11 a13 a30 a31 a33) * a23 + ((-D3 a00 a01 a03 a10 a11 a13 a20 a21 a23) * a33 + 0)))], [(-D3 a10 a11 a12 a20 a21 a22 a30 a31 a32) * a00 + ((D3 a00 a01 a02 a20 a21 a22 a30 a31 a32) * a10 + ((-D3 a00 a01 a02 a10 a11 a12 a30 a31 a32) * a20 + ((D3 a00 a01 a02 a10 a11 a12 a20 a21 a22) * a30 + 0))), (-D3 a10 a11 a12 a20 a21 a22 a30 a31 a32) * a01 + ((D3 a00 a01 a02 a20 a21 a22 a30 a31 a32) * a11 + ((-D3 a00 a01 a02 a10 a11 a12 a30 a31 a32) * a21 + ((D3 a00 a01 a02 a10 a11 a12 a20 a21 a22) * a31 + 0))), (-D3 a10 a11 a12 a20 a21 a22 a30 a31 a32) * a02 + ((D3 a00 a01 a02 a20 a21 a22 a30 a31 a32) * a12 + ((-D3 a00 a01 a02 a10 a11 a12 a30 a31 a32) * a22 + ((D3 a00 a01 a02 a10 a11 a12 a20 a21 a22) * a32 + 0))), (-D3 a10 a11 a12 a20 a21 a22 a30 a31 a32) * a03 + ((D3 a00 a01 a02 a20 a21 a22 a30 a31 a32) * a13 + ((-D3 a00 a01 a02 a10 a11 a12 a30 a31 a32) * a23 + ((D3 a00 a01 a02 a10 a11 a12 a20 a21 a22) * a33 + 0)))]] = _
  rw [scal_eq4]
  rw [adj4r00 a00 a01 a02 a03 a10 a11 a12 a13 a20 a21 a22 a23 a30 a31 a32 a33, adj4r01 a00 a01 a02 a03 a10 a11 a12 a13 a20 a21 a22 a23 a30 a31 a32 a33, adj4r02 a00 a01 a02 a03 a10 a11 a12 a13 a20 a21 a22 a23 a30 a31 a32 a33, adj4r03 a00 a01 a02 a03 a10 a11 a12 a13 a20 a21 a22 a23 a30 a31 a32 a33, adj4r10 a00 a01 a02 a03 a10 a11 a12 a13 a20 a21 a22 a23 a30 a31 a32 a33, adj4r11 a00 a01 a02 a03 a10 a11 a12 a13 a20 a21 a22 a23 a30 a31 a32 a33, adj4r12 a00 a01 a02 a03 a10 a11 a12 a13 a20 a21 a22 a23 a30 a31 a32 a33, adj4r13 a00 a01 a02 a03 a10 a11 a12 a13 a20 a21 a22 a23 a30 a31 a32 a33, adj4r20 a00 a01 a02 a03 a10 a11 a12 a13 a20 a21 a22 a23 a30 a31 a32 a33, adj4r21 a00 a01 a02 a03 a10 a11 a12 a13 a20 a21 a22 a23 a30 a31 a32 a33, adj4r22 a00 a01 a02 a03 a10 a11 a12 a13 a20 a21 a22 a23 a30 a31 a32 a33, adj4r23 a00 a01 a02 a03 a10 a11 a12 a13 a20 a21 a22 a23 a30 a31 a32 a33, adj4r30 a00 a01 a02 a03 a10 a11 a12 a13 a20 a21 a22 a23 a30 a31 a32 a33, adj4r31 a00 a01 a02 a03 a10 a11 a12 a13 a20 a21 a22 a23 a30 a31 a32 a33, adj4r32 a00 a01 a02 a03 a10 a11 a12 a13 a20 a21 a22 a23 a30 a31 a32 a33, adj4r33 a00 a01 a02 a03 a10 a11 a12 a13 a20 a21 a22 a23 a30 a31 a32 a33]

end
end K03
namespace K03
open PySem PySem.Spec PyProof.Rows L2 Gm
open C8 (Cal Met Mak pe_c pe_mt pe_mt0 pe_mk)
section
variable {P : Program} {w : World} {K : PySem.W.Frag} {mg : Str → Option Value} {base : Heap}
/-! ### what the law wants of determinants -/
theorem sz0 {m : List (List Int)} (h : Sz 0 m) : m = [] := List.eq_nil_of_length_eq_zero h.len
theorem mulM_sz {n : Nat} {a b : List (List Int)} (h : a.length = n) : Sz n (mulM a b n) := ⟨(mulM_len ..).trans h, mulM_row⟩
theorem transp_sz {n : Nat} {m : List (List Int)} (h : m.length = n) : Sz n (transp m n) := ⟨transp_len .., fun r hr => (transp_row r hr).trans h⟩
theorem det_mul {n : Nat} {a b : List (List Int)} (hn : n ≤ 4) (ha : Sz n a) (hb : Sz n b) : detL n (mulM a b n) = detL n a * detL n b := by
  match n, hn, ha, hb with
  | 0, _, _, _ => rfl
  | 1, _, ha, hb =>
    obtain ⟨x, rfl⟩ := sz1 ha
    obtain ⟨y, rfl⟩ := sz1 hb
    show detL 1 [[x * y + 0]] = _
    rw [detL1, detL1, detL1, Int.add_zero]
  | 2, _, ha, hb =>
    obtain ⟨_, _, _, _, rfl⟩ := sz2 ha
    obtain ⟨_, _, _, _, rfl⟩ := sz2 hb
    rw [mul_eq2, detL2, detL2, detL2, mulD2]
  | 3, _, ha, hb =>
    obtain ⟨_, _, _, _, _, _, _, _, _, rfl⟩ := sz3 ha
    obtain ⟨_, _, _, _, _, _, _, _, _, rfl⟩ := sz3 hb
    rw [mul_eq3, detL3, detL3, detL3, mulD3]
  | 4, _, ha, hb =>
    obtain ⟨_, _, _, _, _, _, _, _, _, _, _, _, _, _, _, _, rfl⟩ := sz4 ha
    obtain ⟨_, _, _, _, _, _, _, _, _, _, _, _, _, _, _, _, rfl⟩ := sz4 hb
    rw [mul_eq4, detL4, detL4, detL4, mulD4]
theorem det_tr {n : Nat} {m : List (List Int)} (hn : n ≤ 4) (h : Sz n m) : detL n (transp m n) = detL n m := by
  match n, hn, h with
  | 0, _, _ => rfl
  | 1, _, h =>
    obtain ⟨x, rfl⟩ := sz1 h
    rfl
  | 2, _, h =>
    obtain ⟨_, _, _, _, rfl⟩ := sz2 h
    rw [tr_eq2, detL2, detL2, trD2]
  | 3, _, h =>
    obtain ⟨_, _, _, _, _, _, _, _, _, rfl⟩ := sz3 h
    rw [tr_eq3, detL3, detL3, trD3]
  | 4, _, h =>
    obtain ⟨_, _, _, _, _, _, _, _, _, _, _, _, _, _, _, _, rfl⟩ := sz4 h
    rw [tr_eq4, detL4, detL4, trD4]
theorem mul_due {n : Nat} {m : List (List Int)} (hn : n ≤ 4) (h : Sz n m) : mulM m (dueM n m) n = scalM n (detL n m) := by
  match n, hn, h with
  | 0, _, h =>
    cases sz0 h
    rfl
  | 1, _, h =>
    obtain ⟨x, rfl⟩ := sz1 h
    show [[x * (sgn 0 * 1) + 0]] = [[detL 1 [[x]] * 1]]
    rw [detL1, sgn_even (show 0 % 2 = 0 from rfl), Int.add_zero, Int.one_mul]
  | 2, _, h =>
    obtain ⟨_, _, _, _, rfl⟩ := sz2 h
    rw [due_eq2, detL2, adjM2l]
  | 3, _, h =>
    obtain ⟨_, _, _, _, _, _, _, _, _, rfl⟩ := sz3 h
    rw [due_eq3, detL3, adjM3l]
  | 4, _, h =>
    obtain ⟨_, _, _, _, _, _, _, _, _, _, _, _, _, _, _, _, rfl⟩ := sz4 h
    rw [due_eq4, detL4, adjM4l]
theorem due_mul {n : Nat} {m : List (List Int)} (hn : n ≤ 4) (h : Sz n m) : mulM (dueM n m) m n = scalM n (detL n m) := by
  match n, hn, h with
  | 0, _, h =>
    cases sz0 h
    rfl
  | 1, _, h =>
    obtain ⟨x, rfl⟩ := sz1 h
    show [[(sgn 0 * 1) * x + 0]] = [[detL 1 [[x]] * 1]]
    rw [detL1, sgn_even (show 0 % 2 = 0 from rfl), Int.add_zero, Int.one_mul, Int.one_mul, Int.mul_one]
  | 2, _, h =>
    obtain ⟨_, _, _, _, rfl⟩ := sz2 h
    rw [due_eq2, detL2, adjM2r]
  | 3, _, h =>
    obtain ⟨_, _, _, _, _, _, _, _, _, rfl⟩ := sz3 h
    rw [due_eq3, detL3, adjM3r]
  | 4, _, h =>
    obtain ⟨_, _, _, _, _, _, _, _, _, _, _, _, _, _, _, _, rfl⟩ := sz4 h
    rw [due_eq4, detL4, adjM4r]
theorem adj_due {n B : Nat} {m : List (List Int)} (hn : n ≤ 4) (h : Sq n B m) : adjM (n - 1) m = dueM n m := by
  unfold adjM dueM
  rw [h.len]
  refine List.map_congr_left fun i hi => List.map_congr_left fun k hk => ?_
  have hi' := List.mem_range.mp hi
  have hk' := List.mem_range.mp hk
  match n, hn, h, hi', hk' with
  | n + 1, hn, h, hi', hk' =>
    show sminor n m k i = sgn (i + k) * detL n (cutM m k i)
    unfold sminor
    rw [bare_det (by omega) (cutM_sq h hk' hi').sz]
    by_cases e : (k + i) % 2 = 1
    · rw [if_pos e, sgn_odd (by omega)]
      omega
    · rw [if_neg e, sgn_even (by omega)]
      omega
/-- the items of the adjugate -/
theorem due_len (n : Nat) (m : List (List Int)) : (dueM n m).length = n := by
  unfold dueM
  rw [List.length_map, List.length_range]
theorem due_row {n : Nat} {m : List (List Int)} : ∀ r ∈ dueM n m, r.length = n := fun r hr => by
  unfold dueM at hr
  obtain ⟨i, _, rfl⟩ := List.mem_map.mp hr
  rw [List.length_map, List.length_range]

end
end K03
namespace K03
open PySem PySem.Spec PyProof.Rows L2 Gm
open C8 (Cal Met Mak pe_c pe_mt pe_mt0 pe_mk)
section
variable {P : Program} {w : World} {K : PySem.W.Frag} {mg : Str → Option Value} {base : Heap}
/-! ### data for the law's comparisons -/
theorem bits_of {z : Int} {b : Nat} (h : Builtin.Int.intBits z ≤ b) : z.natAbs < 2 ^ b := by
  unfold Builtin.Int.intBits at h
  split at h
  · rename_i e
    rw [eq_of_beq e]
    exact Nat.two_pow_pos b
  · exact Nat.lt_of_lt_of_le (Nat.lt_log2_self) (Nat.pow_le_pow_right (by decide) h)
theorem small_bits {m : List (List Int)} {M B : Nat} (h : ∀ r ∈ m, ∀ x ∈ r, x.natAbs ≤ M) (hM : M < 2 ^ B) : ∀ r ∈ m, Bits B r := fun r hr x hx => Nat.lt_of_le_of_lt (h r hr x hx) hM
theorem dot_bits {B1 B2 : Nat} {xs ys : List Int} (h1 : Bits B1 xs) (h2 : Bits B2 ys) (hl : xs.length ≤ 4) : (dotI xs ys).natAbs < 2 ^ (B1 + B2 + 3) := by
  have h : (dotI xs ys).natAbs ≤ (List.zipWith (· * ·) xs ys).length * (2 ^ B1 * 2 ^ B2) := by
    refine sum_le fun z hz => ?_
    obtain ⟨k, hk⟩ := List.getElem?_of_mem hz
    rw [List.getElem?_zipWith] at hk
    cases e1 : xs[k]? with
    | none => rw [e1] at hk; cases hk
    | some a =>
      cases e2 : ys[k]? with
      | none => rw [e1, e2] at hk; cases hk
      | some b =>
        rw [e1, e2] at hk
        rw [← Option.some.inj hk, Int.natAbs_mul]
        exact Nat.mul_le_mul (Nat.le_of_lt (h1.at e1)) (Nat.le_of_lt (h2.at e2))
  have h3 : (List.zipWith (· * ·) xs ys).length ≤ 4 := by
    rw [List.length_zipWith]
    omega
  have h4 : (List.zipWith (· * ·) xs ys).length * (2 ^ B1 * 2 ^ B2) ≤ 4 * (2 ^ B1 * 2 ^ B2) := Nat.mul_le_mul_right _ h3
  have h5 : 2 ^ (B1 + B2 + 3) = 8 * (2 ^ B1 * 2 ^ B2) := by
    rw [Nat.pow_add, Nat.pow_add, Nat.mul_comm]
  have h6 : 0 < 2 ^ B1 * 2 ^ B2 := Nat.mul_pos (Nat.two_pow_pos _) (Nat.two_pow_pos _)
  omega
theorem mul_sq {n B1 B2 : Nat} {a b : List (List Int)} (hn : n ≤ 4) (ha : Sq n B1 a) (hb : Sq n B2 b) : Sq n (B1 + B2 + 3) (mulM a b n) := by
  refine ⟨(mulM_len ..).trans ha.len, mulM_row, fun r hr => ?_⟩
  obtain ⟨x, hx, rfl⟩ := List.mem_map.mp hr
  intro z hz
  obtain ⟨c, hc, rfl⟩ := List.mem_map.mp hz
  exact dot_bits (ha.bits x hx) (transp_bits hb.row hb.bits c hc) (by rw [ha.row x hx]; exact hn)
theorem tr_sq {n B : Nat} {m : List (List Int)} (h : Sq n B m) : Sq n B (transp m n) := ⟨transp_len .., fun r hr => (transp_row r hr).trans h.len, transp_bits h.row h.bits⟩

end
end K03
namespace K03
open PySem PySem.Spec PyProof.Rows L2 Gm
open C8 (Cal Met Mak pe_c pe_mt pe_mt0 pe_mk)
section
variable {P : Program} {w : World} {K : PySem.W.Frag} {mg : Str → Option Value} {base : Heap}
/-! ### unimodular matrices by steps, sizes up to 4 -/
def l1 (r : List Int) : Nat := (r.map Int.natAbs).sum
theorem l1_at {x : Int} : ∀ {r : List Int}, x ∈ r → x.natAbs ≤ l1 r
  | y :: r, h => by
    show x.natAbs ≤ y.natAbs + l1 r
    rcases List.mem_cons.mp h with rfl | h
    · omega
    · have := l1_at h
      omega
def negR (r : List Int) : List Int := r.map fun z => -z
theorem l1_neg (r : List Int) : l1 (negR r) = l1 r := by
  unfold l1 negR
  rw [List.map_map]
  congr 1
  refine List.map_congr_left fun z _ => ?_
  show (-z).natAbs = z.natAbs
  omega
def zipR (c : Int) (x y : List Int) : List Int := List.zipWith (fun a b => a + c * b) x y
theorem l1_zip {c : Int} (hc : c.natAbs ≤ 2) : ∀ {x y : List Int}, x.length = y.length → l1 (zipR c x y) ≤ l1 x + 2 * l1 y
  | [], _, _ => Nat.zero_le _
  | a :: x, [], h => by cases h
  | a :: x, b :: y, h => by
    have ih := l1_zip hc (x := x) (y := y) (by simpa using h)
    show (a + c * b).natAbs + l1 (zipR c x y) ≤ a.natAbs + l1 x + 2 * (b.natAbs + l1 y)
    have h1 := Int.natAbs_add_le a (c * b)
    have h2 : (c * b).natAbs ≤ 2 * b.natAbs := by
      rw [Int.natAbs_mul]
      exact Nat.mul_le_mul_right b.natAbs hc
    omega
def stepM (m : List (List Int)) (i k : Nat) (c : Int) : List (List Int) := m.set i (if i = k then negR (m.getD i []) else zipR c (m.getD i []) (m.getD k []))
structure UniT (n t : Nat) (m : List (List Int)) : Prop where
  sz : Sz n m
  l1 : ∀ r ∈ m, l1 r ≤ 3 ^ t
  det : (detL n m).natAbs = 1
theorem uniT_row {n t i : Nat} {m : List (List Int)} (h : UniT n t m) (hi : i < n) : m[i]? = some (m.getD i []) ∧ m.getD i [] ∈ m ∧ (m.getD i []).length = n := by
  have hi' : i < m.length := by rw [h.sz.len]; exact hi
  have e : m.getD i [] = m[i] := by rw [List.getD_eq_getElem?_getD, List.getElem?_eq_getElem hi']; rfl
  have hm := List.getElem_mem hi'
  exact ⟨by rw [e]; exact List.getElem?_eq_getElem hi', by rw [e]; exact hm, by rw [e]; exact h.sz.row _ hm⟩
theorem sz_set {n i : Nat} {m : List (List Int)} {r : List Int} (h : Sz n m) (hr : r.length = n) : Sz n (m.set i r) := ⟨by rw [List.length_set]; exact h.len, fun q hq => by
  rcases List.mem_or_eq_of_mem_set hq with hq | rfl
  · exact h.row q hq
  · exact hr⟩
theorem zipR_len {c : Int} {x y : List Int} {n : Nat} (hx : x.length = n) (hy : y.length = n) : (zipR c x y).length = n := by
  unfold zipR
  rw [List.length_zipWith, hx, hy, Nat.min_self]
theorem n1234 {n : Nat} (h0 : 0 < n) (h4 : n ≤ 4) : n = 1 ∨ n = 2 ∨ n = 3 ∨ n = 4 := by omega
theorem det_neg1 {n i : Nat} {m : List (List Int)} (hs : Sz n m) (h4 : n ≤ 4) (hi : i < n) : detL n (m.set i (negR (m.getD i []))) = -detL n m := by
  rcases n1234 (by omega) h4 with rfl | rfl | rfl | rfl
  · obtain ⟨a, rfl⟩ := sz1 hs
    obtain rfl : i = 0 := by omega
    show detL 1 [[-a]] = _
    rw [detL1, detL1]
  · obtain ⟨a, b, c, d, rfl⟩ := sz2 hs
    rcases (show i = 0 ∨ i = 1 by omega) with rfl | rfl
    · show detL 2 [[-a, -b], [c, d]] = _
      rw [detL2, detL2]
      unfold D2
      grind
    · show detL 2 [[a, b], [-c, -d]] = _
      rw [detL2, detL2]
      unfold D2
      grind
  · obtain ⟨a, b, c, d, e, f, g, k, l, rfl⟩ := sz3 hs
    rcases (show i = 0 ∨ i = 1 ∨ i = 2 by omega) with rfl | rfl | rfl
    · show detL 3 [[-a, -b, -c], [d, e, f], [g, k, l]] = _
      rw [detL3, detL3]
      unfold D3 D2
      grind
    · show detL 3 [[a, b, c], [-d, -e, -f], [g, k, l]] = _
      rw [detL3, detL3]
      unfold D3 D2
      grind
    · show detL 3 [[a, b, c], [d, e, f], [-g, -k, -l]] = _
      rw [detL3, detL3]
      unfold D3 D2
      grind
  · obtain ⟨a, b, c, d, e, f, g, k, l, o, p, q, r, s, t, u, rfl⟩ := sz4 hs
    rcases (show i = 0 ∨ i = 1 ∨ i = 2 ∨ i = 3 by omega) with rfl | rfl | rfl | rfl
    · show detL 4 [[-a, -b, -c, -d], [e, f, g, k], [l, o, p, q], [r, s, t, u]] = _
      rw [detL4, detL4]
      unfold D4 D3 D2
      grind
    · show detL 4 [[a, b, c, d], [-e, -f, -g, -k], [l, o, p, q], [r, s, t, u]] = _
      rw [detL4, detL4]
      unfold D4 D3 D2
      grind
    · show detL 4 [[a, b, c, d], [e, f, g, k], [-l, -o, -p, -q], [r, s, t, u]] = _
      rw [detL4, detL4]
      unfold D4 D3 D2
      grind
    · show detL 4 [[a, b, c, d], [e, f, g, k], [l, o, p, q], [-r, -s, -t, -u]] = _
      rw [detL4, detL4]
      unfold D4 D3 D2
      grind
theorem det_zip1 {n i j : Nat} {m : List (List Int)} {z : Int} (hs : Sz n m) (h4 : n ≤ 4) (hi : i < n) (hj : j < n) (hij : i ≠ j) : detL n (m.set i (zipR z (m.getD i []) (m.getD j []))) = detL n m := by
  rcases n1234 (by omega) h4 with rfl | rfl | rfl | rfl
  · omega
  · obtain ⟨a, b, c, d, rfl⟩ := sz2 hs
    rcases (show i = 0 ∧ j = 1 ∨ i = 1 ∧ j = 0 by omega) with ⟨rfl, rfl⟩ | ⟨rfl, rfl⟩
    · show detL 2 [[a + z * c, b + z * d], [c, d]] = _
      rw [detL2, detL2]
      unfold D2
      grind
    · show detL 2 [[a, b], [c + z * a, d + z * b]] = _
      rw [detL2, detL2]
      unfold D2
      grind
  · obtain ⟨a, b, c, d, e, f, g, k, l, rfl⟩ := sz3 hs
    rcases (show i = 0 ∧ j = 1 ∨ i = 0 ∧ j = 2 ∨ i = 1 ∧ j = 0 ∨ i = 1 ∧ j = 2 ∨ i = 2 ∧ j = 0 ∨ i = 2 ∧ j = 1 by omega) with ⟨rfl, rfl⟩ | ⟨rfl, rfl⟩ | ⟨rfl, rfl⟩ | ⟨rfl, rfl⟩ | ⟨rfl, rfl⟩ | ⟨rfl, rfl⟩
    · show detL 3 [[a + z * d, b + z * e, c + z * f], [d, e, f], [g, k, l]] = _
      rw [detL3, detL3]
      unfold D3 D2
      grind
    · show detL 3 [[a + z * g, b + z * k, c + z * l], [d, e, f], [g, k, l]] = _
      rw [detL3, detL3]
      unfold D3 D2
      grind
    · show detL 3 [[a, b, c], [d + z * a, e + z * b, f + z * c], [g, k, l]] = _
      rw [detL3, detL3]
      unfold D3 D2
      grind
    · show detL 3 [[a, b, c], [d + z * g, e + z * k, f + z * l], [g, k, l]] = _
      rw [detL3, detL3]
      unfold D3 D2
      grind
    · show detL 3 [[a, b, c], [d, e, f], [g + z * a, k + z * b, l + z * c]] = _
      rw [detL3, detL3]
      unfold D3 D2
      grind
    · show detL 3 [[a, b, c], [d, e, f], [g + z * d, k + z * e, l + z * f]] = _
      rw [detL3, detL3]
      unfold D3 D2
      grind
  · obtain ⟨a, b, c, d, e, f, g, k, l, o, p, q, r, s, t, u, rfl⟩ := sz4 hs
    rcases (show i = 0 ∧ j = 1 ∨ i = 0 ∧ j = 2 ∨ i = 0 ∧ j = 3 ∨ i = 1 ∧ j = 0 ∨ i = 1 ∧ j = 2 ∨ i = 1 ∧ j = 3 ∨ i = 2 ∧ j = 0 ∨ i = 2 ∧ j = 1 ∨ i = 2 ∧ j = 3 ∨ i = 3 ∧ j = 0 ∨ i = 3 ∧ j = 1 ∨ i = 3 ∧ j = 2 by omega) with ⟨rfl, rfl⟩ | ⟨rfl, rfl⟩ | ⟨rfl, rfl⟩ | ⟨rfl, rfl⟩ | ⟨rfl, rfl⟩ | ⟨rfl, rfl⟩ | ⟨rfl, rfl⟩ | ⟨rfl, rfl⟩ | ⟨rfl, rfl⟩ | ⟨rfl, rfl⟩ | ⟨rfl, rfl⟩ | ⟨rfl, rfl⟩
    · show detL 4 [[a + z * e, b + z * f, c + z * g, d + z * k], [e, f, g, k], [l, o, p, q], [r, s, t, u]] = _
      rw [detL4, detL4]
      unfold D4 D3 D2
      grind
    · show detL 4 [[a + z * l, b + z * o, c + z * p, d + z * q], [e, f, g, k], [l, o, p, q], [r, s, t, u]] = _
      rw [detL4, detL4]
      unfold D4 D3 D2
      grind
    · show detL 4 [[a + z * r, b + z * s, c + z * t, d + z * u], [e, f, g, k], [l, o, p, q], [r, s, t, u]] = _
      rw [detL4, detL4]
      unfold D4 D3 D2
      grind
    · show detL 4 [[a, b, c, d], [e + z * a, f + z * b, g + z * c, k + z * d], [l, o, p, q], [r, s, t, u]] = _
      rw [detL4, detL4]
      unfold D4 D3 D2
      grind
    · show detL 4 [[a, b, c, d], [e + z * l, f + z * o, g + z * p, k + z * q], [l, o, p, q], [r, s, t, u]] = _
      rw [detL4, detL4]
      unfold D4 D3 D2
      grind
    · show detL 4 [[a, b, c, d], [e + z * r, f + z * s, g + z * t, k + z * u], [l, o, p, q], [r, s, t, u]] = _
      rw [detL4, detL4]
      unfold D4 D3 D2
      grind
    · show detL 4 [[a, b, c, d], [e, f, g, k], [l + z * a, o + z * b, p + z * c, q + z * d], [r, s, t, u]] = _
      rw [detL4, detL4]
      unfold D4 D3 D2
      grind
    · show detL 4 [[a, b, c, d], [e, f, g, k], [l + z * e, o + z * f, p + z * g, q + z * k], [r, s, t, u]] = _
      rw [detL4, detL4]
      unfold D4 D3 D2
      grind
    · show detL 4 [[a, b, c, d], [e, f, g, k], [l + z * r, o + z * s, p + z * t, q + z * u], [r, s, t, u]] = _
      rw [detL4, detL4]
      unfold D4 D3 D2
      grind
    · show detL 4 [[a, b, c, d], [e, f, g, k], [l, o, p, q], [r + z * a, s + z * b, t + z * c, u + z * d]] = _
      rw [detL4, detL4]
      unfold D4 D3 D2
      grind
    · show detL 4 [[a, b, c, d], [e, f, g, k], [l, o, p, q], [r + z * e, s + z * f, t + z * g, u + z * k]] = _
      rw [detL4, detL4]
      unfold D4 D3 D2
      grind
    · show detL 4 [[a, b, c, d], [e, f, g, k], [l, o, p, q], [r + z * l, s + z * o, t + z * p, u + z * q]] = _
      rw [detL4, detL4]
      unfold D4 D3 D2
      grind
theorem uniT_step {n t i k : Nat} {m : List (List Int)} {c : Int} (h : UniT n t m) (h4 : n ≤ 4) (hi : i < n) (hk : k < n) (hc : c.natAbs ≤ 2) : UniT n (t + 1) (stepM m i k c) := by
  obtain ⟨_, mi, li⟩ := uniT_row h hi
  obtain ⟨_, mk, lk⟩ := uniT_row h hk
  have p3 : 3 ^ (t + 1) = 3 * 3 ^ t := by rw [Nat.pow_succ, Nat.mul_comm]
  unfold stepM
  by_cases e : i = k
  · rw [if_pos e]
    refine ⟨sz_set h.sz (by unfold negR; rw [List.length_map]; exact li), fun r hr => ?_, by rw [det_neg1 h.sz h4 hi, Int.natAbs_neg]; exact h.det⟩
    rw [p3]
    rcases List.mem_or_eq_of_mem_set hr with hr | rfl
    · have := h.l1 r hr
      omega
    · rw [l1_neg]
      have := h.l1 _ mi
      omega
  · rw [if_neg e]
    refine ⟨sz_set h.sz (zipR_len li lk), fun r hr => ?_, by rw [det_zip1 h.sz h4 hi hk e]; exact h.det⟩
    rw [p3]
    rcases List.mem_or_eq_of_mem_set hr with hr | rfl
    · have := h.l1 r hr
      omega
    · have h1 := l1_zip hc (x := m.getD i []) (y := m.getD k []) (by omega)
      have h2 := h.l1 _ mi
      have h3 := h.l1 _ mk
      omega
def unitU (n i : Nat) : List Int := (List.range n).map fun j => if i = j then 1 else 0
theorem unitU_len {n i : Nat} : (unitU n i).length = n := by
  unfold unitU
  rw [List.length_map, List.length_range]
def unitM (n : Nat) : List (List Int) := (List.range n).map (unitU n)
theorem unitM_len {n : Nat} : (unitM n).length = n := by
  unfold unitM
  rw [List.length_map, List.length_range]
theorem uniT_unit {n : Nat} (h4 : n ≤ 4) : UniT n 0 (unitM n) := by
  refine ⟨⟨unitM_len, fun r hr => ?_⟩, ?_, ?_⟩
  · obtain ⟨i, _, rfl⟩ := List.mem_map.mp hr
    exact unitU_len
  · rcases (show n = 0 ∨ n = 1 ∨ n = 2 ∨ n = 3 ∨ n = 4 by omega) with rfl | rfl | rfl | rfl | rfl <;> decide
  · rcases (show n = 0 ∨ n = 1 ∨ n = 2 ∨ n = 3 ∨ n = 4 by omega) with rfl | rfl | rfl | rfl | rfl <;> decide
theorem uniT_up {n t u : Nat} {m : List (List Int)} (h : UniT n t m) (hu : t ≤ u) : UniT n u m := ⟨h.sz, fun r hr => Nat.le_trans (h.l1 r hr) (Nat.pow_le_pow_right (by decide) hu), h.det⟩

end
end K03
namespace K03
open PySem PySem.Spec PyProof.Rows L2 Gm
open C8 (Cal Met Mak pe_c pe_mt pe_mt0 pe_mk)
section
variable {P : Program} {w : World} {K : PySem.W.Frag} {mg : Str → Option Value} {base : Heap}
theorem StAt.offr {p q : Addr} {H : Hp} {o : HO} (n : q ≠ p) (h : StAt H p) : StAt (upd H q o) p := let ⟨s, t, e, h0⟩ := h; ⟨s, t, by rw [L2.upd_ne (Ne.symm n)]; exact e, h0⟩
theorem StAt.same {p : Addr} {H H' : Hp} (s : Same H H') (h : StAt H p) : StAt H' p := let ⟨a, t, e, h0⟩ := h; ⟨a, t, s _ _ e, h0⟩
theorem StAt.ne {p q : Addr} {H : Hp} (h : StAt H p) (n : H q = none) : p ≠ q := let ⟨_, _, e, _⟩ := h; ne_of_none e n
theorem trowsS {K : PySem.W.Frag} {H H' : Hp} {p : Addr} {v : V} {m : List (List Int)} (st : StAt H p) (o : Off p H H') (h : TRows K H v m) : TRows K H' v m := by
  obtain ⟨_, _, el, _⟩ := st
  obtain ⟨a, ws, e, ha, hp⟩ := h
  refine ⟨a, ws, e, ?_, L2.Paired.mapP hp fun _ _ h => TRow.off el o h⟩
  rcases ha with (ha | ⟨x, ha⟩) | ha
  · exact .inl (.inl (o _ _ (ne_of ha el (by intro z; cases z)) ha))
  · exact .inl (.inr ⟨x, o _ _ (ne_of ha el (by intro z; cases z)) ha⟩)
  · exact .inr ha
def sp_law_unit (K : PySem.W.Frag) : Sp := fun vs H Q _ => ∃ n : Nat, vs = [.int n] ∧ n ≤ 1000 ∧ ∀ v H', Same H H' → TRows K H' v (unitM n) → Q v H'
theorem ok_law_unit (T : Top K mg) (hN : base.NoSeer) (hT : P.given.tree = none) : FnOk P w K mg base CX0 1 T.a_law_unit T.d_law_unit ["n"] (sp_law_unit K) := by
  refine T.F_law_unit.ok sc_law_unit (fun vs H Q E h => ?_) (fun cdv A outer s H vs Q E hr h => ?_)
  · obtain ⟨n, rfl, _⟩ := h
    rfl
  · obtain ⟨n, rfl, hn, q⟩ := h
    refine ⟨_, (pss_one (ps_ret (pe_callTy (tupK K rfl) (by rfl) T.z_tuple (by decide +kernel) (pa_cons (pe_lc (own := [("i", 1)]) (g := (gName 1)) (by rfl) sc_law_unit.nd (pi_range1 (by rfl) T.z_range (pa_cons (pv 0) pa_nil)) ((by show BlkOk ["n", "i", "k"] (defScope s_law_unit) _ _; exact blkOk_by (by decide +kernel))) (fun _ _ _ _ _ => (pg_name (i := 1) sc_law_unit.nd rfl (by first | exact .inl rfl | exact .inr rfl))) (fun _ _ _ _ _ => pts_nil) (fun _ _ _ _ _ => (pe_callTy (tupK K rfl) (by rfl) T.z_tuple (by decide +kernel) (pa_cons (pe_lc (own := [("k", 2)]) (g := (gName 2)) (by rfl) sc_law_unit.nd (pi_range1 (by rfl) T.z_range (pa_cons (pv 0) pa_nil)) ((by show BlkOk ["n", "i", "k"] (relS _ (defScope s_law_unit)) _ _; exact blkOk_by (by decide +kernel))) (fun _ _ _ _ _ => (pg_name (i := 2) sc_law_unit.nd rfl (by first | exact .inl rfl | exact .inr rfl))) (fun _ _ _ _ _ => pts_nil) (fun _ _ _ _ _ => (pe_callTy (call_int1) (by rfl) T.z_int (by decide +kernel) (pa_cons (pe_cmpR op_eq (pv 1) (pv 2) (nomark _)) pa_nil)))) pa_nil)))) pa_nil)))), ?_⟩
    refine ⟨_, rfl, (n : Int), rfl, by omega, by omega, fun D1 hD1 => ?_⟩
    rw [show ((n : Int)).toNat = n from Int.toNat_natCast _]
    refine lc_all walk_range hD1 (by omega) (fun _ _ => trivial) (fun i v H2 => ∃ r, (unitM n)[i]? = some r ∧ TRow K H2 v r) (fun i v H4 H5 acc e o ⟨r, er, h⟩ => ⟨r, er, TRow.off e o h⟩) ?_ gm_name ?_
    · rintro i x H2 H2' acc Ko hi s2 eD ⟨rfl, rfl⟩ k
      refine ⟨rfl, ?_⟩
      refine ⟨_, rfl, (n : Int), rfl, by omega, by omega, fun D3 hD3 => ?_⟩
      rw [show ((n : Int)).toNat = n from Int.toNat_natCast _]
      refine lc_all walk_range hD3 (by omega) (fun _ _ => trivial) (fun j v _ => ∃ z, (unitU n i)[j]? = some z ∧ v = .int z) (fun _ _ _ _ _ _ _ h => h) ?_ gm_name ?_
      · rintro j y H4 H4' acc4 Ko4 hj s4 eD4 ⟨rfl, rfl⟩ k4
        refine ⟨rfl, ?_⟩
        refine ⟨_, rfl, _, rfl, rfl, .inr ⟨_, rfl, ?_⟩⟩
        refine k4 _ _ (Same.refl _) ⟨if i = j then 1 else 0, by unfold unitU; rw [List.getElem?_map, List.getElem?_range hj]; rfl, ?_⟩
        by_cases h : i = j
        · rw [if_pos h, if_pos (decide_eq_true (by rw [h]))]
        · rw [if_neg h, if_neg (by rw [decide_eq_false (fun z => h (by have := V.int.inj z; omega))]; decide)]
      · intro H4 l4 s4 eD4 hp4
        have el := ints_list (by rw [unitU_len]) hp4
        subst el
        refine ⟨D3, _, rfl, .inl ⟨.inl (.inl eD4), fun t nt => ?_⟩⟩
        exact k _ _ (s4.trans (same_upd nt)) ⟨unitU n i, by unfold unitM; rw [List.getElem?_map, List.getElem?_range hi]; rfl, t, rfl, .inl (.inl upd_same)⟩
    · intro H2 l s2 eD hpl
      refine ⟨D1, l, rfl, .inl ⟨.inl (.inl eD), fun t nt => ?_⟩⟩
      refine q _ _ (s2.trans (same_upd nt)) ⟨t, l, rfl, .inl (.inl upd_same), ?_⟩
      exact L2.Paired.mapP (paired_at (m := unitM n) (by rw [unitM_len]) hpl) fun _ _ => TRow.same (same_upd nt)
theorem cal_law_unit (T : Top K mg) (hN : base.NoSeer) (hT : P.given.tree = none) : Cal P w K mg base 1 "_law_unit" (sp_law_unit K) [] := ⟨⟨_, _, _, [], ok_law_unit T hN hT, T.g_law_unit, T.F_law_unit.kp, T.b_law_unit, .nil⟩⟩
def sp_law_step (K : PySem.W.Frag) : Sp := fun vs H Q _ => ∃ (v : V) (m : List (List Int)) (n i k t : Nat) (c : Int), vs = [v, .int i, .int k, .int c] ∧ TRows K H v m ∧ UniT n t m ∧ t ≤ 6 ∧ n ≤ 4 ∧ i < n ∧ k < n ∧ c.natAbs ≤ 2 ∧ ∀ v' H', Same H H' → TRows K H' v' (stepM m i k c) → Q v' H'
theorem ok_law_step (T : Top K mg) (hN : base.NoSeer) (hT : P.given.tree = none) : FnOk P w K mg base CX0 1 T.a_law_step T.d_law_step ["rows", "i", "k", "factor"] (sp_law_step K) := by
  refine T.F_law_step.ok sc_law_step (fun vs H Q E h => ?_) (fun cdv A outer s H vs Q E hr h => ?_)
  · obtain ⟨v, m, n, i, k, t, c, rfl, _⟩ := h
    rfl
  · obtain ⟨v, m, n, i, k, t, c, rfl, hv, U, ht, n4, hi, hk, hc, q⟩ := h
    obtain ⟨a, ws, rfl, ha, hp⟩ := id hv
    have lws := Paired.length hp
    have lm := U.sz.len
    obtain ⟨ei, mi, li⟩ := uniT_row U hi
    obtain ⟨ek, mk, lk⟩ := uniT_row U hk
    have bnd : ∀ r ∈ m, ∀ z ∈ r, z.natAbs < 2 ^ 10 := fun r hr z hz => by
      have h1 := l1_at hz
      have h2 := U.l1 r hr
      have h3 : 3 ^ t ≤ 3 ^ 6 := Nat.pow_le_pow_right (by decide) ht
      omega
    refine ⟨_, (pss_cons (ps_set (i := 4) sc_law_step.nd rfl (by first | exact .inl rfl | exact .inr rfl) (pe_callTy (listK K rfl) (by rfl) T.z_list (by decide +kernel) (pa_cons (pv 0) pa_nil)))
      (pss_cons (ps_if (pt_cmpR op_eq (pv 1) (pv 2) (nomark _))
      (pss_one (ps_asg (pe_callTy (tupK K rfl) (by rfl) T.z_tuple (by decide +kernel) (pa_cons (pe_lc (own := [("x", 5)]) (g := (gName 5)) (by rfl) sc_law_step.nd (piS K rfl (pe_ix (ixT K rfl) (pv 0) (pv 1) (fun _ _ => rfl))) ((by show BlkOk ["rows", "i", "k", "factor", "out", "x", "y"] (defScope s_law_step) _ _; exact blkOk_by (by decide +kernel))) (fun _ _ _ _ _ => (pg_name (i := 5) sc_law_step.nd rfl (by first | exact .inl rfl | exact .inr rfl))) (fun _ _ _ _ _ => pts_nil) (fun _ _ _ _ _ => (pe_un un_neg (pv 5)))) pa_nil)) (pg_sub (pv 4) (pv 1) set_list)))
      (pss_one (ps_asg (pe_callTy (tupK K rfl) (by rfl) T.z_tuple (by decide +kernel) (pa_cons (pe_lc (own := [("x", 5), ("y", 6)]) (g := (gTup K 2 (gCons (gName 5) (gCons (gName 6) gNil)))) (by rfl) sc_law_step.nd (RZ.pi_zipA (by rfl) T.z_zip (pa_cons (pe_ix (ixT K rfl) (pv 0) (pv 1) (fun _ _ => rfl)) (pa_cons (pe_ix (ixT K rfl) (pv 0) (pv 2) (fun _ _ => rfl)) pa_nil))) ((by show BlkOk ["rows", "i", "k", "factor", "out", "x", "y"] (defScope s_law_step) _ _; exact blkOk_by (by decide +kernel))) (fun _ _ _ _ _ => (pg_tup rfl (pgs_cons (pg_name (i := 5) sc_law_step.nd rfl (by first | exact .inl rfl | exact .inr rfl)) (pgs_cons (pg_name (i := 6) sc_law_step.nd rfl (by first | exact .inl rfl | exact .inr rfl)) pgs_nil)))) (fun _ _ _ _ _ => pts_nil) (fun _ _ _ _ _ => (pe_op op_add (pv 5) (pe_op op_mulX (pv 3) (pv 6))))) pa_nil)) (pg_sub (pv 4) (pv 1) set_list))))
      (pss_one (ps_ret (pe_callTy (tupK K rfl) (by rfl) T.z_tuple (by decide +kernel) (pa_cons (pv 4) pa_nil)))))), ?_⟩
    refine ⟨_, rfl, a, ws, rfl, .inr ha, fun L nL => ?_⟩
    have s1 := same_upd (o := .lst ws) nL
    have eL : (upd H L (.lst ws)) L = some (.lst ws) := upd_same
    have ha1 := Same.seqT s1 ha
    have hp1 := L2.Paired.mapP hp fun _ _ => TRow.same s1
    generalize upd H L (.lst ws) = H1 at s1 eL ha1 hp1 ⊢
    obtain ⟨vi, evi, pi, rfl, hpi⟩ := Paired.getL hp1 ei
    obtain ⟨vk, evk, pk, rfl, hpk⟩ := Paired.getL hp1 ek
    -- the end
    have fin : ∀ (tp : Addr) (H2 : Hp) (r' : List Int), Same H1 H2 → TRow K H2 (.ref tp) r' → stepM m i k c = m.set i r' → ∀ y4 y5 y6 : Option V, True → ∀ tq, (upd H2 L (.lst (ws.set i (.ref tp)))) tq = none → TRows K (upd (upd H2 L (.lst (ws.set i (.ref tp)))) tq (.tup (ws.set i (.ref tp)))) (.ref tq) (stepM m i k c) ∧ Same H (upd (upd H2 L (.lst (ws.set i (.ref tp)))) tq (.tup (ws.set i (.ref tp)))) := fun tp H2 r' s2 hr' e _ _ _ _ tq ntq => by
      have hL2 := s2 _ _ eL
      have oL : Off L H2 (upd H2 L (.lst (ws.set i (.ref tp)))) := Off.upd
      have s3 := same_upd (o := .tup (ws.set i (.ref tp))) ntq
      refine ⟨⟨tq, _, rfl, .inl (.inl upd_same), ?_⟩, fun b o eb => s3 _ _ ?_⟩
      · rw [e]
        refine paired_set (TRow.same s3 (TRow.off hL2 oL hr')) i (L2.Paired.mapP hp1 fun _ _ h => TRow.same s3 (TRow.off hL2 oL (TRow.same s2 h)))
      · have nb : b ≠ L := ne_of_none eb nL
        rw [L2.upd_ne nb]
        exact s2 _ _ (s1 _ _ eb)
    refine ⟨_, rfl, _, rfl, rfl, _, rfl, ?_⟩
    by_cases hij : V.int (i : Int) = V.int (k : Int)
    · rw [decide_eq_true hij]
      refine iteT ?_
      have eik : i = k := by have := V.int.inj hij; omega
      refine ⟨_, rfl, _, rfl, a, ws, _, _, rfl, rfl, ha1, at_of (j := i) rfl evi, pi, _, rfl, .inr hpi, fun J1 G1 W1 hG1 D1 hD1 => ?_⟩
      refine lc_all W1 hD1 (by rw [List.length_map]; omega) (fun Ha sa => hG1 Ha fun b _ o => sa b o) (fun j v _ => ∃ z, (negR (m.getD i []))[j]? = some z ∧ v = .int z) (fun _ _ _ _ _ _ _ h => h) ?_ gm_name ?_
      · rintro j y Ha Ha' acc Ko hj sa eDa ⟨rfl, ey⟩ kk
        obtain ⟨z, ez, rfl⟩ := ints_get ey
        refine ⟨rfl, _, rfl, _, rfl, ?_⟩
        exact kk _ _ (Same.refl _) ⟨-z, by unfold negR; rw [List.getElem?_map, ez]; rfl, rfl⟩
      · intro Ha la sa eDa hpa
        have el := ints_list (by unfold negR; rw [List.length_map, List.length_map]) hpa
        subst el
        refine ⟨D1, _, rfl, .inl ⟨.inl (.inl eDa), fun tp ntp => ?_⟩⟩
        have s5 := sa.trans (same_upd (o := .tup ((negR (m.getD i [])).map V.int)) ntp)
        refine ⟨_, rfl, _, rfl, L, ws, _, i, rfl, rfl, s5 _ _ eL, ixN_nat (by omega), ?_⟩
        refine ⟨_, rfl, L, _, rfl, .inl ⟨.inl (.inl upd_same), fun tq ntq => ?_⟩⟩
        obtain ⟨f1, f2⟩ := fin tp _ (negR (m.getD i [])) s5 ⟨tp, rfl, .inl (.inl upd_same)⟩ (by unfold stepM; rw [if_pos eik]) none none none trivial tq ntq
        exact q _ _ f2 f1
    · rw [decide_eq_false hij]
      refine iteF ?_
      have eik : i ≠ k := fun e => hij (by rw [e])
      refine ⟨_, rfl, _, rfl, a, ws, _, _, rfl, rfl, ha1, at_of (j := i) rfl evi, _, rfl, _, rfl, a, ws, _, _, rfl, rfl, ha1, at_of (j := k) rfl evk, ?_⟩
      refine ⟨pi, pk, _, _, rfl, .inr ⟨hpi, hpk, fun D1 hD1 => ?_⟩⟩
      have W1 : Walk (RZ.ItzT K pi pk) n (fun H => SqT K H pi ((m.getD i []).map V.int) ∧ SqT K H pk ((m.getD k []).map V.int)) (YPair (fun j => ((m.getD i []).map V.int)[j]?) (fun j => ((m.getD k []).map V.int)[j]?)) := walk_zipT (by rw [List.length_map, List.length_map, li, lk, Nat.min_self])
      refine lc_all W1 hD1 (by omega) (fun Ha sa => ⟨Same.seqT sa hpi, Same.seqT sa hpk⟩) (fun j v _ => ∃ z, (zipR c (m.getD i []) (m.getD k []))[j]? = some z ∧ v = .int z) (fun _ _ _ _ _ _ _ h => h) ?_ gm_pair ?_
      · rintro j z Ha Ha' acc Ko hj sa eDa ⟨U2, x1, x2, rfl, nU, rfl, e1, e2⟩ kk
        obtain ⟨z1, ez1, rfl⟩ := ints_get e1
        obtain ⟨z2, ez2, rfl⟩ := ints_get e2
        refine g_pair nU ⟨rfl, ?_⟩
        refine ⟨_, rfl, _, rfl, _, rfl, _, _, rfl, rfl, mulx_ok (show c.natAbs < 2 ^ 10 by omega) (bnd _ mk z2 (List.mem_of_getElem? ez2)) (by decide), ?_⟩
        refine ⟨_, _, rfl, rfl, ?_⟩
        refine kk _ _ (same_upd nU) ⟨z1 + c * z2, ?_, rfl⟩
        unfold zipR
        rw [List.getElem?_zipWith, ez1, ez2]
      · intro Ha la sa eDa hpa
        have el := ints_list (by rw [zipR_len li lk]) hpa
        subst el
        refine ⟨D1, _, rfl, .inl ⟨.inl (.inl eDa), fun tp ntp => ?_⟩⟩
        have s5 := sa.trans (same_upd (o := .tup ((zipR c (m.getD i []) (m.getD k [])).map V.int)) ntp)
        refine ⟨_, rfl, _, rfl, L, ws, _, i, rfl, rfl, s5 _ _ eL, ixN_nat (by omega), ?_⟩
        refine ⟨_, rfl, L, _, rfl, .inl ⟨.inl (.inl upd_same), fun tq ntq => ?_⟩⟩
        obtain ⟨f1, f2⟩ := fin tp _ (zipR c (m.getD i []) (m.getD k [])) s5 ⟨tp, rfl, .inl (.inl upd_same)⟩ (by unfold stepM; rw [if_neg eik]) none none none trivial tq ntq
        exact q _ _ f2 f1
theorem cal_law_step (T : Top K mg) (hN : base.NoSeer) (hT : P.given.tree = none) : Cal P w K mg base 1 "_law_step" (sp_law_step K) [] := ⟨⟨_, _, _, [], ok_law_step T hN hT, T.g_law_step, T.F_law_step.kp, T.b_law_step, .nil⟩⟩
def sp_law_unimodular_t (K : PySem.W.Frag) : Sp := fun vs H Q _ => ∃ (p : Addr) (n : Nat), vs = [.ref p, .int n] ∧ StAt H p ∧ n ≤ 4 ∧ ∀ v m H', Off p H H' → StAt H' p → TRows K H' v m → UniT n 4 m → Q v H'
theorem ok_law_unimodular_t (T : Top K mg) (hN : base.NoSeer) (hT : P.given.tree = none) : FnOk P w K mg base CX0 2 T.a_law_unimodular T.d_law_unimodular ["state", "n"] (sp_law_unimodular_t K) := by
  refine T.F_law_unimodular.ok sc_law_unimodular (fun vs H Q E h => ?_) (fun cdv A outer s H vs Q E hr h => ?_)
  · obtain ⟨p, n, rfl, _⟩ := h
    rfl
  · obtain ⟨p, n, rfl, st, n4, q⟩ := h
    refine ⟨_, (pss_cons (ps_set (i := 2) sc_law_unimodular.nd rfl (by first | exact .inl rfl | exact .inr rfl) (pe_c (cal_law_unit T hN hT) hr (by decide) (by rfl) (pa_cons (pv 1) pa_nil)))
      (pss_cons (ps_if (pt_cmpR op_eq (pv 1) pe_int (nomark _))
      (pss_one (ps_ret (pv 2)))
      pss_nil)
      (pss_cons (ps_for PassesOwn.never rfl (pi_range1 (by rfl) T.z_range (pa_cons (pe_op op_add pe_int (pe_c (cal_law_take T hN hT) hr (by decide) (by rfl) (pa_cons (pv 0) (pa_cons pe_int pa_nil)))) pa_nil)) (pg_name (i := 3) sc_law_unimodular.nd rfl (by first | exact .inl rfl | exact .inr rfl))
      (pss_one (ps_set (i := 2) sc_law_unimodular.nd rfl (by first | exact .inl rfl | exact .inr rfl) (pe_c (cal_law_step T hN hT) hr (by decide) (by rfl) (pa_cons (pv 2) (pa_cons (pe_c (cal_law_take T hN hT) hr (by decide) (by rfl) (pa_cons (pv 0) (pa_cons (pv 1) pa_nil))) (pa_cons (pe_c (cal_law_take T hN hT) hr (by decide) (by rfl) (pa_cons (pv 0) (pa_cons (pv 1) pa_nil))) (pa_cons (pe_op op_sub (pe_c (cal_law_take T hN hT) hr (by decide) (by rfl) (pa_cons (pv 0) (pa_cons pe_int pa_nil))) pe_int) pa_nil))))))))
      (pss_one (ps_ret (pv 2)))))), ?_⟩
    refine ⟨_, rfl, n, rfl, by omega, fun v H1 s1 h1 => ?_⟩
    refine ⟨_, rfl, rfl, _, rfl, ?_⟩
    by_cases h0 : n = 0
    · rw [show decide (V.int (n : Int) = V.int 0) = true from decide_eq_true (by rw [h0]; rfl)]
      refine iteT ?_
      exact ⟨_, rfl, q _ _ _ (Same.off s1) (st.same s1) h1 (uniT_up (uniT_unit n4) (by omega))⟩
    · rw [show decide (V.int (n : Int) = V.int 0) = false from decide_eq_false fun z => h0 (by have := V.int.inj z; omega)]
      refine iteF ?_
      refine ⟨_, rfl, p, 4, rfl, st.same s1, by decide, by decide, fun r H2 hr2 o2 st2 => ⟨_, _, rfl, rfl, ?_⟩⟩
      obtain ⟨t, ht, ht4⟩ : ∃ t : Nat, 1 + (r : Int) = (t : Int) ∧ t ≤ 4 := ⟨1 + r, by omega, by omega⟩
      refine ⟨(t : Int), congrArg (fun z => [V.int z]) ht, by omega, by omega, ?_⟩
      rw [show ((t : Int)).toNat = t from Int.toNat_natCast _]
      refine for_it walk_range (fun j σ H3 => ∃ (v : V) (m : List (List Int)) (y3 : Option V), σ = [some (.ref p), some (.int n), some v, y3] ∧ Off p H H3 ∧ StAt H3 p ∧ TRows K H3 v m ∧ UniT n j m) ⟨v, unitM n, none, rfl, Off.trans (Same.off s1) o2, st2, trowsS (st.same s1) o2 h1, uniT_unit n4⟩ (fun _ _ _ _ _ => trivial) ?_ ?_
      · rintro j x σ H3 H3' hj ⟨v, m, y3, rfl, o3, st3, hv, U⟩ ⟨rfl, rfl⟩
        have n0 : 0 < n := by omega
        refine ⟨_, rfl, _, rfl, _, rfl, p, n, rfl, st3, n0, by omega, fun i H4 hi o4 st4 => ?_⟩
        refine ⟨_, rfl, _, rfl, p, n, rfl, st4, n0, by omega, fun k H5 hk o5 st5 => ?_⟩
        refine ⟨_, rfl, p, 5, rfl, st5, by decide, by decide, fun c H6 hc o6 st6 => ⟨_, _, rfl, rfl, ?_⟩⟩
        have o36 := Off.trans o4 (Off.trans o5 o6)
        refine ⟨v, m, n, i, k, j, (c : Int) - 2, rfl, trowsS st3 o36 hv, U, by omega, n4, hi, hk, by omega, fun v' H7 s7 h7 => ?_⟩
        exact ⟨v', _, _, rfl, Off.trans o3 (Off.trans o36 (Same.off s7)), st6.same s7, h7, uniT_step U n4 hi hk (by omega)⟩
      · rintro σ H3 ⟨v, m, y3, rfl, o3, st3, hv, U⟩
        exact ⟨_, rfl, q _ _ _ o3 st3 hv (uniT_up U ht4)⟩
theorem cal_law_unimodular (T : Top K mg) (hN : base.NoSeer) (hT : P.given.tree = none) : Cal P w K mg base 2 "_law_unimodular" (sp_law_unimodular_t K) [] := ⟨⟨_, _, _, [], ok_law_unimodular_t T hN hT, T.g_law_unimodular, T.F_law_unimodular.kp, T.b_law_unimodular, .nil⟩⟩

end
end K03
namespace K03
open PySem PySem.Spec PyProof.Rows L2 Gm
open C8 (Cal Met Mak pe_c pe_mt pe_mt0 pe_mk)
section
variable {P : Program} {w : World} {K : PySem.W.Frag} {mg : Str → Option Value} {base : Heap}
/-! ### diagonal, unit -/
def diagM (ns : List Int) : List (List Int) := (List.range ns.length).map fun i => (List.range ns.length).map fun j => if i = j then ns.getD i 0 else 0
theorem diagM_len (ns : List Int) : (diagM ns).length = ns.length := by
  unfold diagM
  rw [List.length_map, List.length_range]
theorem diagM_row {ns : List Int} : ∀ r ∈ diagM ns, r.length = ns.length := fun r hr => by
  unfold diagM at hr
  obtain ⟨i, _, rfl⟩ := List.mem_map.mp hr
  rw [List.length_map, List.length_range]
theorem diagM_get {ns : List Int} {i : Nat} (h : i < ns.length) : (diagM ns).getD i [] = (List.range ns.length).map fun j => if i = j then ns.getD i 0 else 0 := by
  unfold diagM
  rw [List.getD_eq_getElem?_getD, List.getElem?_map, List.getElem?_range h]
  rfl
def sp_diagonal (K : PySem.W.Frag) (C : Addr) : Sp := fun vs H Q _ => ∃ v ns, vs = [v] ∧ IRow K H v ns ∧ ns.length ≤ 1000 ∧ ∀ g H', Same H H' → IsGrid K C H' g (diagM ns) ns.length → Q g H'

end
end K03
namespace K03
open PySem PySem.Spec PyProof.Rows L2 Gm
open C8 (Cal Met Mak pe_c pe_mt pe_mt0 pe_mk)
section
variable {P : Program} {w : World} {K : PySem.W.Frag} {mg : Str → Option Value} {base : Heap}
theorem rep_ints (c : Int) : ∀ n : Nat, (List.replicate n [V.int c]).flatten = (List.replicate n c).map V.int
  | 0 => rfl
  | n + 1 => by
    rw [List.replicate_succ, List.flatten_cons, rep_ints c n, List.replicate_succ]
    rfl
def sp_unit (K : PySem.W.Frag) (C : Addr) : Sp := fun vs H Q _ => ∃ n : Nat, vs = [.int n] ∧ n ≤ 1000 ∧ ∀ g H', Same H H' → IsGrid K C H' g (diagM (List.replicate n 1)) n → Q g H'
def sp_check_same_size (K : PySem.W.Frag) (C : Addr) : Sp := fun vs H Q _ => ∃ v m w u m2, vs = [v, u] ∧ IsGrid K C H v m w ∧ IsGrid K C H u m2 w ∧ m.length = m2.length ∧ Q .non H

end
end K03
namespace K03
open PySem PySem.Spec PyProof.Rows L2 Gm
open C8 (Cal Met Mak pe_c pe_mt pe_mt0 pe_mk)
section
variable {P : Program} {w : World} {K : PySem.W.Frag} {mg : Str → Option Value} {base : Heap}
theorem pss_wk {X : Cx} {st : List Stmt} {t t' : TS} (h : PSs X st t) (hm : ∀ D σ H, t' D σ H → t D σ H) : PSs X st t' := ⟨fun pins s σ H D I q => h.run pins s σ H D I (hm D σ H q)⟩
def tK (M : L2.St → Hp → Prop) : TS := fun D σ H => M σ H ∧ ∀ H', D.rt (.bl true) H'
abbrev XL (P : Program) (w : World) {K : PySem.W.Frag} {mg : Str → Option Value} (base : Heap) (T : Top K mg) (cdv : Value) (A : Around) (outer : List Env) (s : Shared) (H : Hp) (E : XK) : Cx :=
  (cxOf CX0 P w K mg base ["script", "state", "n", "rows", "grid", "other", "at", "factor", "bad", "x"] "law" (defScope s_law) T.a_law cdv A outer s H E).nox
def sp_law (K : PySem.W.Frag) : Sp := fun vs H Q _ => ∃ (a : Addr) (ns : List Int), vs = [.ref a] ∧ SqL K H a (ns.map V.int) ∧ ns.length ≤ 63 ∧ (∀ z ∈ ns, Builtin.Int.intBits z ≤ 1048576) ∧ ∀ H', Q (.bl true) H'
theorem gridS {K : PySem.W.Frag} {C : Addr} {H H' : Hp} {p : Addr} {v : V} {m : List (List Int)} {w : Nat} (st : StAt H p) (o : Off p H H') (h : IsGrid K C H v m w) : IsGrid K C H' v m w := by
  obtain ⟨⟨q, dx, t, e, ho, ht⟩, hw⟩ := h
  obtain ⟨s0, t0, el, _⟩ := st
  exact ⟨⟨q, dx, t, e, o _ _ (ne_of ho el (by intro z; cases z)) ho, ht.off el o⟩, hw⟩
theorem rowS {K : PySem.W.Frag} {H H' : Hp} {p : Addr} {v : V} {x : List Int} (st : StAt H p) (o : Off p H H') (h : TRow K H v x) : TRow K H' v x := let ⟨_, _, el, _⟩ := st; TRow.off el o h

end
end K03
namespace K03
open PySem PySem.Spec PyProof.Rows L2 Gm
open C8 (Cal Met Mak pe_c pe_mt pe_mt0 pe_mk)
section
variable {P : Program} {w : World} {K : PySem.W.Frag} {mg : Str → Option Value} {base : Heap}
/-! ### spans and unit rows -/
def sumF : Nat → (Nat → Int) → Int
  | 0, _ => 0
  | n + 1, f => sumF n f + f n
abbrev fn (x : List Int) : Nat → Int := fun i => x.getD i 0
def ent (m : List (List Int)) (i j : Nat) : Int := (m.getD i []).getD j 0
theorem sumF_congr {n : Nat} {f g : Nat → Int} (h : ∀ i, i < n → f i = g i) : sumF n f = sumF n g := by
  induction n with
  | zero => rfl
  | succ n ih =>
    show sumF n f + f n = sumF n g + g n
    rw [ih fun i hi => h i (by omega), h n (by omega)]
theorem sumF_lin (n : Nat) (f g : Nat → Int) (a : Int) : sumF n (fun i => f i + a * g i) = sumF n f + a * sumF n g := by
  induction n with
  | zero => show (0 : Int) = 0 + a * 0; omega
  | succ n ih =>
    show sumF n (fun i => f i + a * g i) + (f n + a * g n) = sumF n f + f n + a * (sumF n g + g n)
    rw [ih]
    grind
theorem sumF_zero (n : Nat) : sumF n (fun _ => 0) = 0 := by
  induction n with
  | zero => rfl
  | succ n ih => show sumF n (fun _ => 0) + 0 = 0; rw [ih]; rfl
theorem spn_comb {R : List (List Int)} {g : Nat → Nat → Int} {c : Nat → Int} : ∀ k, (∀ b, b < k → Spn R (g b)) → Spn R (fun l => sumF k fun b => c b * g b l)
  | 0, _ => Spn.zero R
  | k + 1, h => by
    have h1 := spn_comb (c := c) k fun b hb => h b (by omega)
    have h2 := (h k (by omega)).smul (c k)
    exact (h1.add h2).cong fun l => rfl
theorem spn_out {R : List (List Int)} {f : Nat → Int} (h : Spn R f) : ∃ c : Nat → Int, ∀ l, f l = sumF R.length fun j => c j * fn (R.getD j []) l := by
  have key : ∀ (R Q : List (List Int)) (f : Nat → Int), Spn R f → ∃ c : Nat → Int, ∀ l, f l = sumF R.length fun j => c j * fn (R.getD j []) l := fun R => by
    induction R with
    | nil => intro Q f h; exact ⟨fun _ => 0, h⟩
    | cons r R ih =>
      intro Q f ⟨a, h⟩
      obtain ⟨c, hc⟩ := ih Q _ h
      refine ⟨fun j => match j with | 0 => a | j + 1 => c j, fun l => ?_⟩
      have e : ∀ (n : Nat) (F : Nat → Int), sumF (n + 1) F = F 0 + sumF n fun j => F (j + 1) := fun n F => by
        induction n with
        | zero => show 0 + F 0 = F 0 + 0; omega
        | succ n ih2 =>
          show sumF (n + 1) F + F (n + 1) = F 0 + ((sumF n fun j => F (j + 1)) + F (n + 1))
          rw [ih2]
          omega
      rw [List.length_cons, e]
      have h1 : f l - a * r.getD l 0 = _ := hc l
      show f l = a * r.getD l 0 + sumF R.length fun j => c j * fn (R.getD j []) l
      omega
  exact key R R f h
theorem unit_get {k i j : Nat} (hi : i < k) : fn (unitU k i) j = if i = j then 1 else 0 := by
  show (unitU k i).getD j 0 = _
  unfold unitU
  rw [List.getD_eq_getElem?_getD, List.getElem?_map]
  by_cases hj : j < k
  · rw [List.getElem?_range hj]
    rfl
  · rw [List.getElem?_eq_none (by rw [List.length_range]; omega), if_neg (by omega)]
    rfl
theorem spn_units {k : Nat} {R : List (List Int)} (h : ∀ i, i < k → Spn R (fn (unitU k i))) {f : Nat → Int} (hf : ∀ j, k ≤ j → f j = 0) : Spn R f := by
  have h1 := spn_comb (c := f) (g := fun b => fn (unitU k b)) k h
  refine h1.cong fun l => ?_
  have key : ∀ c, c ≤ k → (sumF c fun b => f b * fn (unitU k b) l) = if l < c then f l else 0 := fun c => by
    induction c with
    | zero => intro _; rfl
    | succ c ih =>
      intro hc
      show (sumF c fun b => f b * fn (unitU k b) l) + f c * fn (unitU k c) l = _
      rw [ih (by omega), unit_get (by omega)]
      by_cases h1 : c = l
      · subst h1
        rw [if_neg (by omega), if_pos rfl, if_pos (by omega)]
        omega
      · rw [if_neg h1, Int.mul_zero]
        by_cases h2 : l < c
        · rw [if_pos h2, if_pos (by omega)]
          omega
        · rw [if_neg h2, if_neg (by omega)]
          rfl
  show (sumF k fun b => f b * fn (unitU k b) l) = f l
  rw [key k (Nat.le_refl _)]
  split
  · rfl
  · exact (hf l (by omega)).symm
def Full (k : Nat) (R : List (List Int)) : Prop := ∀ i, i < k → Spn R (fn (unitU k i))

end
end K03
namespace K03
open PySem PySem.Spec PyProof.Rows L2 Gm
open C8 (Cal Met Mak pe_c pe_mt pe_mt0 pe_mk)
section
variable {P : Program} {w : World} {K : PySem.W.Frag} {mg : Str → Option Value} {base : Heap}
theorem sumF_shift (n : Nat) (F : Nat → Int) : sumF (n + 1) F = F 0 + sumF n fun j => F (j + 1) := by
  induction n with
  | zero => show 0 + F 0 = F 0 + 0; omega
  | succ n ih2 =>
    show sumF (n + 1) F + F (n + 1) = F 0 + ((sumF n fun j => F (j + 1)) + F (n + 1))
    rw [ih2]
    omega
theorem sumF_mul (n : Nat) (f : Nat → Int) (a : Int) : sumF n (fun i => a * f i) = a * sumF n f := by
  have := sumF_lin n (fun _ => 0) f a
  rw [sumF_zero] at this
  rw [Int.zero_add] at this
  rw [← this]
  exact sumF_congr fun i _ => by omega
def dotI' (x y : List Int) : Int := dotI x y
theorem dot_sum : ∀ {n : Nat} {x y : List Int}, x.length = n → y.length = n → dotI x y = sumF n fun a => fn x a * fn y a
  | 0, [], [], _, _ => rfl
  | n + 1, a :: x, b :: y, hx, hy => by
    rw [sumF_shift, show dotI (a :: x) (b :: y) = a * b + dotI x y from rfl, dot_sum (n := n) (by simpa using hx) (by simpa using hy)]
    rfl
theorem row_ent {M : List (List Int)} {l j : Nat} : ent M l j = fn (M.getD l []) j := rfl
theorem map_ent {M : List (List Int)} {l j : Nat} : (M.map fun r => r.getD j 0).getD l 0 = ent M l j := by
  unfold ent
  rw [List.getD_eq_getElem?_getD, List.getElem?_map, List.getD_eq_getElem?_getD (l := M)]
  cases M[l]? <;> rfl
theorem tr_fn {M : List (List Int)} {n j l : Nat} (hj : j < n) : fn ((transp M n).getD j []) l = ent M l j := by
  show ((transp M n).getD j []).getD l 0 = _
  rw [transp_get hj, map_ent]
theorem tr_row {M : List (List Int)} {n j : Nat} (hj : j < n) : (transp M n).getD j [] ∈ transp M n := by
  have h : j < (transp M n).length := by rw [transp_len]; exact hj
  rw [List.getD_eq_getElem?_getD, List.getElem?_eq_getElem h]
  exact List.getElem_mem h
theorem mul_ent {A B : List (List Int)} {n w l i : Nat} (hl : l < A.length) (hi : i < w) (hA : ∀ r ∈ A, r.length = n) (hB : B.length = n) : ent (mulM A B w) l i = sumF n fun a => ent A l a * ent B a i := by
  have eA : A[l]? = some (A.getD l []) := by rw [List.getD_eq_getElem?_getD, List.getElem?_eq_getElem hl]; rfl
  have e1 : (mulM A B w).getD l [] = (transp B w).map fun c => dotI (A.getD l []) c := by
    unfold mulM
    rw [List.getD_eq_getElem?_getD, List.getElem?_map, eA]
    rfl
  have hi' : i < (transp B w).length := by rw [transp_len]; exact hi
  have eB : (transp B w)[i]? = some ((transp B w).getD i []) := by rw [List.getD_eq_getElem?_getD, List.getElem?_eq_getElem hi']; rfl
  have lB : ((transp B w).getD i []).length = n := by rw [transp_row _ (tr_row hi), hB]
  unfold ent
  rw [e1, List.getD_eq_getElem?_getD, List.getElem?_map, eB]
  show dotI (A.getD l []) ((transp B w).getD i []) = _
  rw [dot_sum (hA _ (List.mem_of_getElem? eA)) lB]
  exact sumF_congr fun a _ => by rw [tr_fn hi]; rfl
theorem scal_ent {n l i : Nat} {d : Int} (hl : l < n) (hi : i < n) : ent (scalM n d) l i = d * (if l = i then 1 else 0) := by
  unfold ent scalM
  rw [List.getD_eq_getElem?_getD (l := (List.range n).map _), List.getElem?_map, List.getElem?_range hl]
  show ((List.range n).map fun k => d * (if l = k then 1 else 0)).getD i 0 = _
  rw [List.getD_eq_getElem?_getD, List.getElem?_map, List.getElem?_range hi]
  rfl
theorem due_len' (n : Nat) (m : List (List Int)) : (dueM n m).length = n := by
  unfold dueM
  rw [List.length_map, List.length_range]
/-- the sums by the adjugate -/
theorem due_sum {n : Nat} {M : List (List Int)} (h4 : n ≤ 4) (hs : Sz n M) {l i : Nat} (hl : l < n) (hi : i < n) : (sumF n fun a => ent (dueM n M) a i * ent M l a) = detL n M * (if l = i then 1 else 0) := by
  have h1 := mul_ent (w := n) (l := l) (i := i) (by rw [hs.len]; exact hl) hi hs.row (due_len' n M)
  rw [mul_due h4 hs, scal_ent hl hi] at h1
  rw [h1]
  exact sumF_congr fun a _ => Int.mul_comm ..
theorem inv_sum {n : Nat} {M : List (List Int)} (h4 : n ≤ 4) (hs : Sz n M) (hd : (detL n M).natAbs = 1) : ∃ Y : Nat → Nat → Int, ∀ l i, l < n → i < n → (sumF n fun a => Y a i * ent M l a) = if l = i then 1 else 0 := by
  refine ⟨fun a i => detL n M * ent (dueM n M) a i, fun l i hl hi => ?_⟩
  rw [sumF_congr (g := fun a => detL n M * (ent (dueM n M) a i * ent M l a)) fun a _ => Int.mul_assoc .., sumF_mul, due_sum h4 hs hl hi, ← Int.mul_assoc]
  rcases (show detL n M = 1 ∨ detL n M = -1 by omega) with e | e <;> rw [e] <;> split <;> rfl
theorem take_ent {W : List (List Int)} {k l j : Nat} : ent (W.take k) l j = if l < k then ent W l j else 0 := by
  unfold ent
  rw [List.getD_eq_getElem?_getD (l := W.take k), List.getElem?_take]
  by_cases h : l < k
  · rw [if_pos h, if_pos h, List.getD_eq_getElem?_getD (l := W)]
  · rw [if_neg h, if_neg h]
    rfl
/-- P2 -/
theorem full_take {n k : Nat} {W : List (List Int)} (h4 : n ≤ 4) (hs : Sz n W) (hd : (detL n W).natAbs = 1) (hk : k ≤ n) : Full k (transp (W.take k) n) := fun i hi => by
  obtain ⟨Y, hY⟩ := inv_sum h4 hs hd
  have h := spn_comb (R := transp (W.take k) n) (g := fun b => fn ((transp (W.take k) n).getD b [])) (c := fun b => Y b i) n fun b hb => Spn.mem (tr_row hb)
  refine h.cong fun l => ?_
  show (sumF n fun b => Y b i * fn ((transp (W.take k) n).getD b []) l) = _
  rw [sumF_congr (g := fun b => Y b i * (if l < k then ent W l b else 0)) fun b hb => by rw [tr_fn hb, take_ent], unit_get hi]
  by_cases hl : l < k
  · rw [sumF_congr (g := fun b => Y b i * ent W l b) fun b _ => by rw [if_pos hl], hY l i (by omega) (by omega)]
    by_cases e : l = i
    · rw [if_pos e, if_pos e.symm]
    · rw [if_neg e, if_neg fun z => e z.symm]
  · rw [sumF_congr (g := fun _ => 0) fun b _ => by rw [if_neg hl, Int.mul_zero], sumF_zero, if_neg (by omega)]
theorem mat_ext {k : Nat} {A B : List (List Int)} (hA : Sz k A) (hB : Sz k B) (h : ∀ l i, l < k → i < k → ent A l i = ent B l i) : A = B := by
  apply List.ext_getElem
  · rw [hA.len, hB.len]
  · intro l h1 h2
    have hl : l < k := by rw [hA.len] at h1; exact h1
    refine list_ext (w := k) (hA.row _ (List.getElem_mem h1)) (hB.row _ (List.getElem_mem h2)) fun i => ?_
    have e1 : A[l].getD i 0 = ent A l i := by
      unfold ent
      rw [List.getD_eq_getElem?_getD (l := A), List.getElem?_eq_getElem h1]
      rfl
    have e2 : B[l].getD i 0 = ent B l i := by
      unfold ent
      rw [List.getD_eq_getElem?_getD (l := B), List.getElem?_eq_getElem h2]
      rfl
    by_cases hi : i < k
    · rw [e1, e2, h l i hl hi]
    · rw [getD_none (by rw [hA.row _ (List.getElem_mem h1)]; omega), getD_none (by rw [hB.row _ (List.getElem_mem h2)]; omega)]
theorem unitM_sz (k : Nat) : Sz k (unitM k) := ⟨unitM_len, fun r hr => by
  obtain ⟨i, _, rfl⟩ := List.mem_map.mp hr
  exact unitU_len⟩
theorem unitM_ent {k l i : Nat} (hl : l < k) : ent (unitM k) l i = fn (unitU k l) i := by
  unfold ent unitM
  rw [List.getD_eq_getElem?_getD (l := (List.range k).map _), List.getElem?_map, List.getElem?_range hl]
  rfl
/-- P3 -/
theorem full_mul {n k : Nat} {W X : List (List Int)} (h4 : n ≤ 4) (hW : Full k (transp W n)) (lW : W.length = k) (rW : ∀ r ∈ W, r.length = n) (hk : k ≤ 4) (hX : Sz k X) : Full k (transp (mulM X W n) n) ↔ (detL k X).natAbs = 1 := by
  have lm : (mulM X W n).length = k := by rw [mulM_len, hX.len]
  have eR : ∀ j l, j < n → fn ((transp (mulM X W n) n).getD j []) l = if l < k then sumF k fun a => ent X l a * ent W a j else 0 := fun j l hj => by
    rw [tr_fn hj]
    by_cases hl : l < k
    · rw [if_pos hl, mul_ent (by rw [hX.len]; exact hl) hj hX.row lW]
    · rw [if_neg hl]
      unfold ent
      rw [List.getD_eq_getElem?_getD (l := mulM X W n), List.getElem?_eq_none (by omega)]
      rfl
  constructor
  · intro hF
    -- each unit vector is an image
    have him : ∀ f, Spn (transp (mulM X W n) n) f → ∃ y : Nat → Int, ∀ l, l < k → f l = sumF k fun a => ent X l a * y a := fun f hf => by
      refine Spn.prop (fun f => ∃ y : Nat → Int, ∀ l, l < k → f l = sumF k fun a => ent X l a * y a) ⟨fun _ => 0, fun l _ => ?_⟩ ?_ (fun r hr => ?_) hf
      · rw [sumF_congr (g := fun _ => 0) fun a _ => Int.mul_zero _, sumF_zero]
      · rintro x y a ⟨u, hu⟩ ⟨v, hv⟩
        refine ⟨fun b => u b + a * v b, fun l hl => ?_⟩
        show x l + a * y l = _
        rw [hu l hl, hv l hl, ← sumF_lin]
        exact sumF_congr fun b _ => by grind
      · obtain ⟨j, ej⟩ := List.getElem?_of_mem hr
        have hj : j < n := by
          have := (List.getElem?_eq_some_iff.mp ej).1
          rwa [transp_len] at this
        have er : r = (transp (mulM X W n) n).getD j [] := by rw [List.getD_eq_getElem?_getD, ej]; rfl
        refine ⟨fun a => ent W a j, fun l hl => ?_⟩
        show fn r l = _
        rw [er, eR j l hj, if_pos hl]
    have hy : ∀ i, ∃ y : Nat → Int, i < k → ∀ l, l < k → fn (unitU k i) l = sumF k fun a => ent X l a * y a := fun i => by
      by_cases hi : i < k
      · obtain ⟨y, hy⟩ := him _ (hF i hi)
        exact ⟨y, fun _ => hy⟩
      · exact ⟨fun _ => 0, fun h => absurd h hi⟩
    obtain ⟨y, hy⟩ := Classical.axiomOfChoice hy
    -- X times these is the unit matrix
    have hYs : Sz k ((List.range k).map fun a => (List.range k).map fun i => y i a) := ⟨by rw [List.length_map, List.length_range], fun r hr => by
      obtain ⟨a, _, rfl⟩ := List.mem_map.mp hr
      rw [List.length_map, List.length_range]⟩
    obtain ⟨Y, hYe⟩ : ∃ Y, (List.range k).map (fun a => (List.range k).map fun i => y i a) = Y := ⟨_, rfl⟩
    rw [hYe] at hYs
    have hYent : ∀ a i, a < k → i < k → ent Y a i = y i a := fun a i ha hi => by
      rw [← hYe]
      unfold ent
      rw [List.getD_eq_getElem?_getD (l := (List.range k).map _), List.getElem?_map, List.getElem?_range ha]
      show ((List.range k).map fun i => y i a).getD i 0 = _
      rw [List.getD_eq_getElem?_getD, List.getElem?_map, List.getElem?_range hi]
      rfl
    have hone : mulM X Y k = unitM k := mat_ext ⟨by rw [mulM_len, hX.len], mulM_row⟩ (unitM_sz k) fun l i hl hi => by
      rw [unitM_ent hl, unit_get hl, mul_ent (by rw [hX.len]; exact hl) hi hX.row hYs.len, sumF_congr (g := fun a => ent X l a * y i a) fun a ha => by rw [hYent a i ha hi], ← hy i hi l hl, unit_get hi]
      by_cases e : l = i
      · rw [if_pos e, if_pos e.symm]
      · rw [if_neg e, if_neg fun z => e z.symm]
    have hdet := det_mul hk hX hYs
    rw [hone] at hdet
    have h1 : detL k (unitM k) = 1 := by
      rcases (show k = 0 ∨ k = 1 ∨ k = 2 ∨ k = 3 ∨ k = 4 by omega) with rfl | rfl | rfl | rfl | rfl <;> decide
    rw [h1] at hdet
    have h2 : (detL k X).natAbs * (detL k Y).natAbs = 1 := by rw [← Int.natAbs_mul, ← hdet]; rfl
    exact Nat.dvd_one.mp ⟨_, h2.symm⟩
  · intro hd i hi
    obtain ⟨Y, hY⟩ := inv_sum hk hX hd
    -- the image of a span
    have him : ∀ f, Spn (transp W n) f → Spn (transp (mulM X W n) n) (fun l => if l < k then sumF k fun a => ent X l a * f a else 0) := fun f hf => by
      refine Spn.prop (fun f => Spn (transp (mulM X W n) n) (fun l => if l < k then sumF k fun a => ent X l a * f a else 0)) ?_ ?_ (fun r hr => ?_) hf
      · refine (Spn.zero _).cong fun l => ?_
        rw [sumF_congr (g := fun _ => 0) fun a _ => Int.mul_zero _, sumF_zero]
        split <;> rfl
      · intro x y a hx hy
        refine (hx.add (hy.smul a)).cong fun l => ?_
        by_cases hl : l < k
        · rw [if_pos hl, if_pos hl, if_pos hl, ← sumF_lin]
          exact sumF_congr fun b _ => by grind
        · rw [if_neg hl, if_neg hl, if_neg hl]
          omega
      · obtain ⟨j, ej⟩ := List.getElem?_of_mem hr
        have hj : j < n := by
          have := (List.getElem?_eq_some_iff.mp ej).1
          rwa [transp_len] at this
        have er : r = (transp W n).getD j [] := by rw [List.getD_eq_getElem?_getD, ej]; rfl
        refine (Spn.mem (tr_row (M := mulM X W n) hj)).cong fun l => ?_
        show fn ((transp (mulM X W n) n).getD j []) l = _
        rw [eR j l hj]
        by_cases hl : l < k
        · rw [if_pos hl, if_pos hl]
          exact sumF_congr fun a _ => by rw [er]; show _ = ent X l a * fn ((transp W n).getD j []) a; rw [tr_fn hj]
        · rw [if_neg hl, if_neg hl]
    have hyi : Spn (transp W n) (fun a => if a < k then Y a i else 0) := spn_units hW fun j hj => by rw [if_neg (by omega)]
    refine (him _ hyi).cong fun l => ?_
    rw [unit_get hi]
    by_cases hl : l < k
    · rw [if_pos hl, sumF_congr (g := fun a => Y a i * ent X l a) fun a ha => by rw [if_pos ha, Int.mul_comm], hY l i hl hi]
      by_cases e : l = i
      · rw [if_pos e, if_pos e.symm]
      · rw [if_neg e, if_neg fun z => e z.symm]
    · rw [if_neg hl, if_neg (by omega)]

end
end K03
namespace K03
open PySem PySem.Spec PyProof.Rows L2 Gm
open C8 (Cal Met Mak pe_c pe_mt pe_mt0 pe_mk)
section
variable {P : Program} {w : World} {K : PySem.W.Frag} {mg : Str → Option Value} {base : Heap}
/-! ### the inverse of a unimodular matrix -/
def invG (n : Nat) (m : List (List Int)) : List (List Int) := scaleM (detL n m) (dueM n m)
theorem due_sq {n B : Nat} {m : List (List Int)} (hn : n ≤ 4) (h : Sq n B m) : Sq n (3 * (B + 8) + 1) (dueM n m) := by
  refine ⟨by unfold dueM; rw [List.length_map, List.length_range], fun r hr => by
    unfold dueM at hr
    obtain ⟨i, _, rfl⟩ := List.mem_map.mp hr
    rw [List.length_map, List.length_range], ?_⟩
  intro r hr x hx
  unfold dueM at hr
  obtain ⟨i, hi, rfl⟩ := List.mem_map.mp hr
  obtain ⟨k, hk, rfl⟩ := List.mem_map.mp hx
  have hi' := List.mem_range.mp hi
  have hk' := List.mem_range.mp hk
  match n, hn, h, hi', hk' with
  | n + 1, hn, h, hi', hk' =>
    show (sgn (i + k) * detL n (cutM m k i)).natAbs < 2 ^ (3 * (B + 8) + 1)
    have h1 : (sgn (i + k)).natAbs = 1 := by
      unfold sgn
      omega
    rw [Int.natAbs_mul, h1, Nat.one_mul]
    refine Nat.lt_of_lt_of_le (detL_le (by omega) (cutM_sq h hk' hi')) (Nat.pow_le_pow_right (by decide) ?_)
    have : n * (B + 8) ≤ 3 * (B + 8) := Nat.mul_le_mul (by omega) (Nat.le_refl _)
    omega
theorem scale_sq {n B : Nat} {k : Int} {m : List (List Int)} (hk : k.natAbs = 1) (h : Sq n B m) : Sq n B (scaleM k m) := by
  refine ⟨by unfold scaleM; rw [List.length_map]; exact h.len, fun r hr => ?_, fun r hr x hx => ?_⟩
  · unfold scaleM at hr
    obtain ⟨q, hq, rfl⟩ := List.mem_map.mp hr
    rw [List.length_map]
    exact h.row q hq
  · unfold scaleM at hr
    obtain ⟨q, hq, rfl⟩ := List.mem_map.mp hr
    obtain ⟨y, hy, rfl⟩ := List.mem_map.mp hx
    rw [Int.natAbs_mul, hk, Nat.one_mul]
    exact h.bits q hq y hy
theorem scale_ent {k : Int} {m : List (List Int)} {i j : Nat} : ent (scaleM k m) i j = k * ent m i j := by
  unfold ent scaleM
  rw [List.getD_eq_getElem?_getD (l := m.map _), List.getElem?_map, List.getD_eq_getElem?_getD (l := m)]
  cases m[i]? with
  | none =>
    show ([] : List Int).getD j 0 = k * ([] : List Int).getD j 0
    simp
  | some r =>
    show (r.map fun x => k * x).getD j 0 = k * r.getD j 0
    rw [List.getD_eq_getElem?_getD, List.getElem?_map, List.getD_eq_getElem?_getD]
    cases r[j]? with
    | none => simp
    | some x => rfl
theorem sumF_mulL (n : Nat) (f : Nat → Int) (a : Int) : sumF n (fun i => a * f i) = a * sumF n f := by
  induction n with
  | zero => show (0 : Int) = a * 0; omega
  | succ n ih =>
    show sumF n (fun i => a * f i) + a * f n = a * (sumF n f + f n)
    rw [ih, Int.mul_add]
theorem sumF_swap (n m : Nat) (F : Nat → Nat → Int) : (sumF n fun a => sumF m fun b => F a b) = sumF m fun b => sumF n fun a => F a b := by
  induction n with
  | zero =>
    show (0 : Int) = sumF m fun b => 0
    rw [sumF_zero]
  | succ n ih =>
    show (sumF n fun a => sumF m fun b => F a b) + (sumF m fun b => F n b) = sumF m fun b => (sumF n fun a => F a b) + F n b
    rw [ih]
    have := sumF_lin m (fun b => sumF n fun a => F a b) (fun b => F n b) 1
    simp only [Int.one_mul] at this
    exact this.symm
theorem sumF_pick (n i : Nat) (f : Nat → Int) : (sumF n fun b => (if i = b then 1 else 0) * f b) = if i < n then f i else 0 := by
  induction n with
  | zero => rfl
  | succ n ih =>
    show (sumF n fun b => (if i = b then 1 else 0) * f b) + (if i = n then 1 else 0) * f n = _
    rw [ih]
    by_cases h1 : i < n
    · rw [if_pos h1, if_neg (by omega), if_pos (by omega)]
      omega
    · by_cases h2 : i = n
      · subst h2
        rw [if_neg h1, if_pos rfl, if_pos (by omega)]
        omega
      · rw [if_neg h1, if_neg h2, if_neg (by omega)]
        omega
theorem inv_left {n : Nat} {m : List (List Int)} (hn : n ≤ 4) (h : Sz n m) (hd : (detL n m).natAbs = 1) {i j : Nat} (hi : i < n) (hj : j < n) : (sumF n fun a => ent (invG n m) i a * ent m a j) = if i = j then 1 else 0 := by
  have e := due_mul hn h
  have e1 := mul_ent (A := dueM n m) (B := m) (n := n) (w := n) (l := i) (i := j) (by rw [due_len']; exact hi) hj (fun r hr => by
    unfold dueM at hr
    obtain ⟨i, _, rfl⟩ := List.mem_map.mp hr
    rw [List.length_map, List.length_range]) h.len
  rw [e, scal_ent hi hj] at e1
  have e2 : (sumF n fun a => ent (invG n m) i a * ent m a j) = detL n m * sumF n fun a => ent (dueM n m) i a * ent m a j := by
    rw [← sumF_mulL]
    refine sumF_congr fun a _ => ?_
    unfold invG
    rw [scale_ent, Int.mul_assoc]
  rw [e2, ← e1, ← Int.mul_assoc]
  have : detL n m * detL n m = 1 := by
    have hc : detL n m = 1 ∨ detL n m = -1 := by omega
    rcases hc with h | h <;> rw [h] <;> decide
  rw [this, Int.one_mul]
theorem inv_right {n : Nat} {m : List (List Int)} (hn : n ≤ 4) (h : Sz n m) (hd : (detL n m).natAbs = 1) {i j : Nat} (hi : i < n) (hj : j < n) : (sumF n fun a => ent m i a * ent (invG n m) a j) = if i = j then 1 else 0 := by
  have e := mul_due hn h
  have e1 := mul_ent (A := m) (B := dueM n m) (n := n) (w := n) (l := i) (i := j) (by rw [h.len]; exact hi) hj h.row (due_len' n m)
  rw [e, scal_ent hi hj] at e1
  have e2 : (sumF n fun a => ent m i a * ent (invG n m) a j) = detL n m * sumF n fun a => ent m i a * ent (dueM n m) a j := by
    rw [← sumF_mulL]
    refine sumF_congr fun a _ => ?_
    unfold invG
    rw [scale_ent]
    grind
  rw [e2, ← e1, ← Int.mul_assoc]
  have : detL n m * detL n m = 1 := by
    have hc : detL n m = 1 ∨ detL n m = -1 := by omega
    rcases hc with h | h <;> rw [h] <;> decide
  rw [this, Int.one_mul]
theorem invG_sq {n B : Nat} {m : List (List Int)} (hn : n ≤ 4) (h : Sq n B m) (hd : (detL n m).natAbs = 1) : Sq n (3 * (B + 8) + 1) (invG n m) := scale_sq hd (due_sq hn h)
theorem mul_invG {n B : Nat} {m : List (List Int)} (hn : n ≤ 4) (h : Sq n B m) (hd : (detL n m).natAbs = 1) : mulM m (invG n m) n = unitM n := by
  have q := invG_sq hn h hd
  refine mat_ext (k := n) ⟨(mulM_len ..).trans h.len, mulM_row⟩ (unitM_sz n) fun l i hl hi => ?_
  rw [mul_ent (n := n) (by rw [h.len]; exact hl) hi h.row q.len, inv_right hn h.sz hd hl hi, unitM_ent hl, unit_get hl]
theorem invG_mul {n B : Nat} {m : List (List Int)} (hn : n ≤ 4) (h : Sq n B m) (hd : (detL n m).natAbs = 1) : mulM (invG n m) m n = unitM n := by
  have q := invG_sq hn h hd
  refine mat_ext (k := n) ⟨(mulM_len ..).trans q.len, mulM_row⟩ (unitM_sz n) fun l i hl hi => ?_
  rw [mul_ent (n := n) (by rw [q.len]; exact hl) hi q.row h.len, inv_left hn h.sz hd hl hi, unitM_ent hl, unit_get hl]
theorem det_invG {n B : Nat} {m : List (List Int)} (hn : n ≤ 4) (h : Sq n B m) (hd : (detL n m).natAbs = 1) : (detL n (invG n m)).natAbs = 1 := by
  have e := det_mul hn h.sz (invG_sq hn h hd).sz
  rw [mul_invG hn h hd] at e
  have u := (uniT_unit hn).det
  rw [e, Int.natAbs_mul, hd, Nat.one_mul] at u
  exact u
theorem invG_invG {n B : Nat} {m : List (List Int)} (hn : n ≤ 4) (h : Sq n B m) (hd : (detL n m).natAbs = 1) : invG n (invG n m) = m := by
  have q := invG_sq hn h hd
  have d2 := det_invG hn h hd
  have q2 := invG_sq hn q d2
  refine mat_ext (k := n) q2.sz h.sz fun i j hi hj => ?_
  -- m (A B) = (m A) B
  have e1 : (sumF n fun b => ent m i b * sumF n fun a => ent (invG n m) b a * ent (invG n (invG n m)) a j) = ent m i j := by
    rw [sumF_congr (g := fun b => (if j = b then 1 else 0) * ent m i b) fun b hb => by
      rw [inv_right hn q.sz d2 hb hj]
      by_cases hc : b = j
      · subst hc; rw [if_pos rfl]; omega
      · rw [if_neg hc, if_neg (fun z => hc z.symm)]; omega, sumF_pick, if_pos hj]
  have e2 : (sumF n fun b => ent m i b * sumF n fun a => ent (invG n m) b a * ent (invG n (invG n m)) a j) = ent (invG n (invG n m)) i j := by
    rw [sumF_congr (g := fun b => sumF n fun a => ent m i b * (ent (invG n m) b a * ent (invG n (invG n m)) a j)) fun b _ => (sumF_mulL ..).symm, sumF_swap,
      sumF_congr (g := fun a => (if i = a then 1 else 0) * ent (invG n (invG n m)) a j) fun a ha => by
        rw [← inv_right hn h.sz hd hi ha, Int.mul_comm, ← sumF_mulL]
        exact sumF_congr fun b _ => by grind, sumF_pick, if_pos hi]
  rw [← e1, e2]

end
end K03
namespace K03
open PySem PySem.Spec PyProof.Rows L2 Gm
open C8 (Cal Met Mak pe_c pe_mt pe_mt0 pe_mk)
section
variable {P : Program} {w : World} {K : PySem.W.Frag} {mg : Str → Option Value} {base : Heap}
/-! ### Refused -/
def sp_Refused_init (C : Addr) : Sp := fun vs H Q _ => ∃ (a : Addr) (y : V), vs = [.ref a, y] ∧ H a = some (exo a C none) ∧ ∀ dx, H dx = none → dx ≠ a → Q .non (upd (upd H dx (exd dx [("reason", y)])) a (exo a C (some dx)))
theorem ok_Refused_init (T : Top K mg) (hN : base.NoSeer) (hT : P.given.tree = none) : FnOk P w K mg base CX0 1 T.a_Refused_init T.d_Refused_init ["self", "reason"] (sp_Refused_init T.X_Refused) := by
  refine T.F_Refused_init.ok sc_Refused_init (fun vs H Q E h => ?_) (fun cdv A outer s H vs Q E hr h => ?_)
  · obtain ⟨a, y, rfl, _⟩ := h
    rfl
  · obtain ⟨a, y, rfl, ha, q⟩ := h
    refine ⟨_, (pss_one (ps_ost (pv 0) (pv 1))), ?_⟩
    exact ⟨_, rfl, _, rfl, a, T.X_Refused, rfl, T.oX_Refused, T.nf_Refused, .inl ⟨ha, fun dx n ne => q dx n ne⟩⟩
/-- what a Refused leaves -/
def ERef (E : XK) (X : Addr) (r : Str) (H : Hp) : Prop := ∀ d H', Same H H' → H' d = some (.xd [("reason", .str r)]) → E (.ref X) (some d) H'
theorem ERef.at {E : XK} {X : Addr} {r : Str} {H H' : Hp} (s : Same H H') (h : ERef E X r H) : ERef E X r H' := fun d H2 s2 e => h d H2 (s.trans s2) e
theorem made_ref {E : XK} {X : Addr} {r : Str} {H : Hp} (h : ERef E X r H) (a : Addr) (na : H a = none) : sp_Refused_init X (.ref a :: ([.str r] ++ [])) (upd H a (exo a X none))
    (fun v H2 => v = .non ∧ ∃ (d : Addr) (fs : List (Str × V)), H2 a = some (exo a X (some d)) ∧ H2 d = some (exd d fs) ∧ H d = none ∧ E (.ref X) (some d) (upd (del H2 a) d (.xd fs))) (fun _ _ _ => False) := by
  refine ⟨a, .str r, rfl, upd_same, fun dx nd ne => ⟨rfl, dx, [("reason", .str r)], upd_same, ?_, ?_, ?_⟩⟩
  · rw [upd_ne ne, upd_same]
  · rw [upd_ne ne] at nd
    exact nd
  · refine h dx _ (fun b o e => ?_) upd_same
    have hba : b ≠ a := ne_of_none e na
    rw [upd_ne ne] at nd
    have hbd : b ≠ dx := ne_of_none e nd
    rw [upd_ne hbd, del_ne hba, upd_ne hba, upd_ne hbd, upd_ne hba]
    exact e

end
end K03
namespace K03
open PySem PySem.Spec PyProof.Rows L2 Gm
open C8 (Cal Met Mak pe_c pe_mt pe_mt0 pe_mk)
section
variable {P : Program} {w : World} {K : PySem.W.Frag} {mg : Str → Option Value} {base : Heap}
theorem m_inverse (t : V) (w : Nat) : (flds t w).lookup ("inverse" : Str) = none := flds_no t w (by decide +kernel) (by decide +kernel)
def sp_Grid_inverse (K : PySem.W.Frag) (C : Addr) : Sp := fun vs H Q _ => ∃ v m n B, vs = [v] ∧ IsGrid K C H v m n ∧ Sq n B m ∧ n ≤ 4 ∧ B ≤ 1000 ∧ (detL n m).natAbs = 1 ∧ ∀ g H', Same H H' → IsGrid K C H' g (invG n m) n → Q g H'
theorem ok_Grid_inverse (T : Top K mg) (hN : base.NoSeer) (hT : P.given.tree = none) : FnOk P w K mg base CX0 47 T.a_Grid_inverse T.d_Grid_inverse ["self"] (sp_Grid_inverse K T.C_Grid) := by
  refine T.F_Grid_inverse.ok sc_Grid_inverse (fun vs H Q E h => ?_) (fun cdv A outer s H vs Q E hr h => ?_)
  · obtain ⟨v, m, n, B, rfl, _⟩ := h
    rfl
  · obtain ⟨v, m, n, B, rfl, G, sq, hn, hB, hd, q⟩ := h
    obtain ⟨⟨p, dx, t, rfl, ho, ht⟩, hrw⟩ := id G
    refine ⟨_, (pss_cons (ps_if (pt_not (pt_val (pe_mt0 (met_Grid_is_unimodular T hN hT) hr (by decide) (pv 0))))
      (pss_one ps_never)
      pss_nil)
      (pss_one (ps_ret (pe_mt (met_Grid_scaled T hN hT) hr (by decide) (pe_mt0 (met_Grid_adjugate T hN hT) hr (by decide) (pv 0)) (pa_cons (pe_mt0 (met_Grid_determinant T hN hT) hr (by decide) (pv 0)) pa_nil))))), ?_⟩
    have bd := bare_det hn sq.sz
    refine ⟨_, rfl, p, dx, _, rfl, ho, m_is_unimodular _ _, .ref p, m, n, rfl, G, .inr ⟨B, sq, by omega, by omega, fun H1 s1 => ⟨_, rfl, ?_⟩⟩⟩
    rw [bd, decide_eq_true hd]
    refine iteF ?_
    refine ⟨_, rfl, p, dx, _, rfl, s1 _ _ ho, m_adjugate _ _, .ref p, m, n, B, rfl, IsGrid.same s1 G, sq, by omega, by omega, fun g H2 s2 G2 => ?_⟩
    obtain ⟨⟨p2, dx2, t2, rfl, ho2, ht2⟩, hrw2⟩ := id G2
    have s12 := s1.trans s2
    refine ⟨p2, dx2, _, rfl, ho2, m_scaled _ _, ?_⟩
    refine ⟨_, rfl, p, dx, _, rfl, s12 _ _ ho, m_determinant _ _, .ref p, m, n, B, rfl, IsGrid.same s12 G, sq, by omega, by omega, fun H3 s3 => ?_⟩
    rw [bd]
    rw [adj_due hn sq] at G2
    have ds := due_sq hn sq
    refine ⟨.ref p2, dueM n m, n, detL n m, 1, 3 * (B + 8) + 1, rfl, IsGrid.same s3 G2, by rw [ds.len]; omega, by omega, by rw [hd]; decide, ds.bits, by omega, fun g4 H4 s4 G4 => ?_⟩
    exact q g4 H4 (s12.trans (s3.trans s4)) G4
theorem met_Grid_inverse (T : Top K mg) (hN : base.NoSeer) (hT : P.given.tree = none) : Met P w K mg base 47 T.C_Grid "inverse" (sp_Grid_inverse K T.C_Grid) [] := ⟨⟨_, _, _, [], T.cl_Grid, T.m_Grid_inverse, ok_Grid_inverse T hN hT, T.b_Grid_inverse, .nil⟩⟩

end
end K03
namespace K03
open PySem PySem.Spec PyProof.Rows L2 Gm
open C8 (Cal Met Mak pe_c pe_mt pe_mt0 pe_mk)
section
variable {P : Program} {w : World} {K : PySem.W.Frag} {mg : Str → Option Value} {base : Heap}
/-- not unimodular -/
def BadU (w : Nat) (m : List (List Int)) : Prop := m.length ≠ w ∨ ∃ B, Sq w B m ∧ w ≤ 4 ∧ B ≤ 1200000 ∧ (detL w m).natAbs ≠ 1
def sp_Grid_inverse_X (K : PySem.W.Frag) (C X : Addr) : Sp := fun vs H Q E => ∃ v m w, vs = [v] ∧ IsGrid K C H v m w ∧ BadU w m ∧ ERef E X "unimodular" H
theorem ok_Grid_inverse_X (T : Top K mg) (hN : base.NoSeer) (hT : P.given.tree = none) : FnOk P w K mg base (L2N.CX P w) 47 T.a_Grid_inverse T.d_Grid_inverse ["self"] (sp_Grid_inverse_X K T.C_Grid T.X_Refused) := by
  refine okN T.F_Grid_inverse sc_Grid_inverse (fun vs H Q E h => ?_) (fun cdv A outer s H vs Q E hr h => ?_)
  · obtain ⟨v, m, w, rfl, _⟩ := h
    rfl
  · obtain ⟨v, m, n, rfl, G, bad, er⟩ := h
    obtain ⟨⟨p, dx, t, rfl, ho, ht⟩, hrw⟩ := id G
    refine ⟨_, (pss_cons (ps_if (pt_not (pt_val (pe_mt0 (met_Grid_is_unimodular T hN hT) hr (by decide) (pv 0))))
      (pss_one (L2N.ps_raise rfl (L2N.takes_of rfl rfl rfl rfl) (pmk_oexN T.oX_Refused T.nI_Refused T.jI_Refused (ok_Refused_init T hN hT) (hr.mono (by decide)) T.b_Refused_init .nil pass0 (by rfl) T.gX_Refused (pa_cons pe_str pa_nil))))
      pss_nil)
      (pss_one ps_never)), ?_⟩
    rcases bad with hne | ⟨B, sq, hn, hB, hd⟩
    · refine ⟨_, rfl, p, dx, _, rfl, ho, m_is_unimodular _ _, .ref p, m, n, rfl, G, .inl ⟨hne, fun H1 s1 => ⟨_, rfl, ?_⟩⟩⟩
      refine iteT ?_
      exact ⟨by decide, fun a na => made_ref (er.at s1) a na⟩
    · refine ⟨_, rfl, p, dx, _, rfl, ho, m_is_unimodular _ _, .ref p, m, n, rfl, G, .inr ⟨B, sq, by omega, by omega, fun H1 s1 => ⟨_, rfl, ?_⟩⟩⟩
      rw [bare_det hn sq.sz, decide_eq_false hd]
      refine iteT ?_
      exact ⟨by decide, fun a na => made_ref (er.at s1) a na⟩

end
end K03
namespace K03
open PySem PySem.Spec PyProof.Rows L2 Gm
open C8 (Cal Met Mak pe_c pe_mt pe_mt0 pe_mk)
section
variable {P : Program} {w : World} {K : PySem.W.Frag} {mg : Str → Option Value} {base : Heap}
theorem exm1 {K : PySem.W.Frag} {S : Addr} (h1 : PySem.W.subIn K (.ref S) (.type "BaseException") = some true) (h2 : PySem.W.isClsIn K S = true) (h3 : PySem.W.typeIn K (.ref S) = some (.type "type")) (h4 : PySem.W.subIn K (.ref S) (.ref S) = some true) :
    PySem.W.exmOne K (.ref S) (.ref S) = some true := by
  have e1 : (PySem.W.subIn K (.ref S) (.type "BaseException") == some true) = true := by rw [h1] <;> rfl
  have e2 : ((PySem.W.clsIn K S).isSome && PySem.W.typeIn K (.ref S) == some (.type "type")) = true := by
    have h2' : (PySem.W.clsIn K S).isSome = true := h2
    rw [h2', h3] <;> rfl
  show (if (PySem.W.subIn K (.ref S) (.type "BaseException") == some true) = true then (if ((PySem.W.clsIn K S).isSome && PySem.W.typeIn K (.ref S) == some (.type "type")) = true then PySem.W.subIn K (.ref S) (.ref S) else none) else none) = some true
  rw [if_pos e1, if_pos e2]
  exact h4
theorem takes0N {X : Cx} : L2N.Takes X (fun _ _ _ _ => False) := fun _ _ x => by
  obtain ⟨_, _, _, _, _, _, _, _, _, _, _, _, _, _, _, _, w⟩ := x
  exact w.elim
theorem hot_suite {X : Cx} {a : Addr} {oe : Obj} {cls : Value} {d : Option Addr} {pn : List (Addr × Obj)} (hz : L2N.Zn cls d oe) (hf : ∃ vs, oe.data = .fields vs) : L2H.HotC (X.suite a ((a, oe) :: pn)) := by
  obtain ⟨vs, h⟩ := hf
  exact ⟨(a, oe), ⟨rfl, vs, h, hz.2.2 vs h⟩, List.mem_cons_self ..⟩
def sp_law_refused (K : PySem.W.Frag) (C : Addr) : Sp := fun vs H Q _ => ∃ v m w, vs = [v] ∧ IsGrid K C H v m w ∧ BadU w m ∧ ∀ H', Q (.bl true) H'
theorem ok_law_refused (T : Top K mg) (hN : base.NoSeer) (hT : P.given.tree = none) : FnOk P w K mg base CX0 48 T.a_law_refused T.d_law_refused ["grid"] (sp_law_refused K T.C_Grid) := by
  refine T.F_law_refused.ok sc_law_refused (fun vs H Q E h => ?_) (fun cdv A outer s H vs Q E hr h => ?_)
  · obtain ⟨v, m, w, rfl, _⟩ := h
    rfl
  · obtain ⟨v, m, n, rfl, G, bad, q⟩ := h
    obtain ⟨⟨p, dx, t, rfl, ho, ht⟩, hrw⟩ := id G
    refine ⟨_, (pss_cons (L2N.ps_try_as (i := 1) (Wout := fun _ _ _ _ => False) rfl rfl sc_law_refused.nd rfl rfl ⟨rfl, by decide, Or.inl T.gX_Refused⟩ takes0N (fun W pn xe tk _ => (pss_one (ps_expr (pe_methS0 (E := WE W) (pv 0) T.cl_Grid T.m_Grid_inverse (ok_Grid_inverse_X T hN hT) (hr.mono (by decide)) T.b_Grid_inverse (fun σ => L2N.passAt tk σ))))) (fun a oe cls d pn hz hf => (pss_one (ps_ret (pe_and (pe_cmpR op_eq (pe_xf T.fX_Refused T.nf_Refused hz.zc hf (pv 1)) pe_str (nomark _)) (pe_one (pe_cmpR op_isBl (GmH.pe_mt0H (pv 0) T.cl_Grid T.m_Grid_is_unimodular (okH_Grid_is_unimodular T hN hT) (L2H.roomH_mark (hr.mono (by decide)) _) (hot_suite hz hf) T.b_Grid_is_unimodular) pe_bl (nomark _))))))))
      (pss_one (ps_ret pe_bl))), ?_⟩
    refine ⟨_, rfl, p, dx, _, rfl, ho, m_inverse _ _, .ref p, m, n, rfl, G, bad, fun d H1 s1 hd => ?_⟩
    refine ⟨true, exm1 T.bX_Refused T.iX_Refused T.tX_Refused T.sX_Refused, fun _ a na => ?_, fun z => (nomatch z)⟩
    refine ⟨_, rfl, rfl, rfl, d, _, _, rfl, hd, rfl, rfl, _, rfl, ?_⟩
    rw [decide_eq_true (rfl : V.str ("unimodular" : Str) = V.str ("unimodular" : Str))]
    refine iteT ?_
    refine ⟨_, rfl, p, dx, _, rfl, s1 _ _ ho, m_is_unimodular _ _, .ref p, m, n, rfl, IsGrid.same s1 G, ?_⟩
    rcases bad with hne | ⟨B, sq, hn, hB, hd'⟩
    · exact .inl ⟨hne, fun H2 s2 => ⟨_, _, rfl, rfl, q H2⟩⟩
    · refine .inr ⟨B, sq, by omega, by omega, fun H2 s2 => ?_⟩
      rw [bare_det hn sq.sz, decide_eq_false hd']
      exact ⟨_, _, rfl, rfl, q H2⟩
theorem cal_law_refused (T : Top K mg) (hN : base.NoSeer) (hT : P.given.tree = none) : Cal P w K mg base 48 "_law_refused" (sp_law_refused K T.C_Grid) [] := ⟨⟨_, _, _, [], ok_law_refused T hN hT, T.g_law_refused, T.F_law_refused.kp, T.b_law_refused, .nil⟩⟩

end
end K03
namespace K03
open PySem PySem.Spec PyProof.Rows L2 Gm
open C8 (Cal Met Mak pe_c pe_mt pe_mt0 pe_mk)
section
variable {P : Program} {w : World} {K : PySem.W.Frag} {mg : Str → Option Value} {base : Heap}
/-! ### a row multiplied -/
theorem det_scale {n i : Nat} {m : List (List Int)} {z : Int} (hs : Sz n m) (h4 : n ≤ 4) (hi : i < n) : detL n (m.set i ((m.getD i []).map fun x => z * x)) = z * detL n m := by
  rcases n1234 (by omega) h4 with rfl | rfl | rfl | rfl
  · obtain ⟨a, rfl⟩ := sz1 hs
    obtain rfl : i = 0 := by omega
    show detL 1 [[z * a]] = _
    rw [detL1, detL1]
  · obtain ⟨a, b, c, d, rfl⟩ := sz2 hs
    rcases (show i = 0 ∨ i = 1 by omega) with rfl | rfl
    · show detL 2 [[z * a, z * b], [c, d]] = _
      rw [detL2, detL2]
      unfold D2
      grind
    · show detL 2 [[a, b], [z * c, z * d]] = _
      rw [detL2, detL2]
      unfold D2
      grind
  · obtain ⟨a, b, c, d, e, f, g, k, l, rfl⟩ := sz3 hs
    rcases (show i = 0 ∨ i = 1 ∨ i = 2 by omega) with rfl | rfl | rfl
    · show detL 3 [[z * a, z * b, z * c], [d, e, f], [g, k, l]] = _
      rw [detL3, detL3]
      unfold D3 D2
      grind
    · show detL 3 [[a, b, c], [z * d, z * e, z * f], [g, k, l]] = _
      rw [detL3, detL3]
      unfold D3 D2
      grind
    · show detL 3 [[a, b, c], [d, e, f], [z * g, z * k, z * l]] = _
      rw [detL3, detL3]
      unfold D3 D2
      grind
  · obtain ⟨a, b, c, d, e, f, g, k, l, o, p, q, r, s, t, u, rfl⟩ := sz4 hs
    rcases (show i = 0 ∨ i = 1 ∨ i = 2 ∨ i = 3 by omega) with rfl | rfl | rfl | rfl
    · show detL 4 [[z * a, z * b, z * c, z * d], [e, f, g, k], [l, o, p, q], [r, s, t, u]] = _
      rw [detL4, detL4]
      unfold D4 D3 D2
      grind
    · show detL 4 [[a, b, c, d], [z * e, z * f, z * g, z * k], [l, o, p, q], [r, s, t, u]] = _
      rw [detL4, detL4]
      unfold D4 D3 D2
      grind
    · show detL 4 [[a, b, c, d], [e, f, g, k], [z * l, z * o, z * p, z * q], [r, s, t, u]] = _
      rw [detL4, detL4]
      unfold D4 D3 D2
      grind
    · show detL 4 [[a, b, c, d], [e, f, g, k], [l, o, p, q], [z * r, z * s, z * t, z * u]] = _
      rw [detL4, detL4]
      unfold D4 D3 D2
      grind

def M5 (K : PySem.W.Frag) (C : Addr) : L2.St → Hp → Prop := fun σ H => ∃ (s0 : Option V) (p : Addr) (n : Nat) (rv gv ov : V) (m : List (List Int)),
  σ = [s0, some (.ref p), some (.int (n : Int)), some rv, some gv, some ov, none, none, none, none] ∧ StAt H p ∧ n ≤ 4 ∧ UniT n 4 m ∧ TRows K H rv m ∧ IsGrid K C H gv m n ∧ IsGrid K C H ov (invG n m) n
def M8 (K : PySem.W.Frag) (C : Addr) : L2.St → Hp → Prop := fun σ H => ∃ (s0 : Option V) (p : Addr) (n : Nat) (rv gv ov : V) (m : List (List Int)),
  σ = [s0, some (.ref p), some (.int (n : Int)), some rv, some gv, some ov, none, none, none, none] ∧ StAt H p ∧ n ≤ 4 ∧ UniT n 4 m ∧ TRows K H rv m
theorem uni_sq {n : Nat} {m : List (List Int)} (U : UniT n 4 m) : Sq n 10 m := ⟨U.sz.len, U.sz.row, fun r hr x hx => by
  have h1 := l1_at hx
  have h2 := U.l1 r hr
  show x.natAbs < 2 ^ 10
  have : 3 ^ 4 = 81 := rfl
  omega⟩
theorem make_grid2 {K : PySem.W.Frag} {C x dx : Addr} {H1 : Hp} {v : V} {m : List (List Int)} {w : Nat} {Q : VK} {E : XK} (nx : H1 x = none) (nd : H1 dx = none) (hm : IRows K H1 v m) (hl : m.length ≤ 1000) (hw : w ≤ 1000) (hrw : ∀ r ∈ m, r.length = w) (q : ∀ H', Same H1 H' → IsGrid K C H' (.ref x) m w → Q .non H') :
    sp_Grid_init K C [.ref x, v, .int w] (upd (upd H1 dx (.own x)) x (.ins C dx [])) Q E := by
  have s0 : Same H1 (upd (upd H1 dx (.own x)) x (.ins C dx [])) := fun b o e => by
    rw [upd_ne (ne_of_none e nx), upd_ne (ne_of_none e nd)]
    exact e
  refine ⟨x, dx, v, m, w, rfl, upd_same, hm.same s0, hl, hw, hrw, fun t H' o ho ht => ?_⟩
  exact q _ (fun b u e => o _ _ (ne_of_none e nx) (s0 _ _ e)) ⟨⟨x, dx, t, rfl, ho, ht⟩, hrw⟩
theorem sl_any {K : PySem.W.Frag} {a : Addr} {H : Hp} {xs : List V} {lo hi : Option Int} {Q : VK} (h : SqT K H a xs) (q : ∀ r H', Same H H' → SqT K H' r (cutV xs lo hi) → Q (.ref r) H') : rSlA K (.ref a) lo hi H Q := by
  refine ⟨a, xs, rfl, h, fun ⟨e1, e2⟩ => q a H (Same.refl _) ?_, fun _ p np => q p _ (same_upd np) (.inl (.inl upd_same))⟩
  have : cutV xs lo hi = xs := by
    unfold cutV
    rw [e1, e2, Nat.sub_zero, List.drop_zero, List.take_length]
  rw [this]
  exact h
theorem cat_any {K : PySem.W.Frag} {a b : Addr} {H : Hp} {xs ys : List V} {Q : VK} (h : SqT K H a xs) (h2 : SqT K H b ys) (hl : xs.length + ys.length ≤ 100) (q : ∀ r H', Same H H' → SqT K H' r (xs ++ ys) → Q (.ref r) H') : rCatA K (.ref a) (.ref b) H Q := by
  have hz : 100 ≤ sizeLine := by decide
  refine ⟨a, b, xs, ys, rfl, rfl, h, h2, by omega, fun e => ?_, fun _ e => ?_, fun _ _ p np => q p _ (same_upd np) (.inl (.inl upd_same))⟩
  · subst e
    exact q b H (Same.refl _) h2
  · subst e
    refine q a H (Same.refl _) ?_
    rw [List.append_nil]
    exact h
theorem cut_takeS {xs : List V} {k : Nat} : cutV xs none (some (k : Int)) = xs.take k := by
  unfold cutV
  have e2 : HT.sIx xs.length xs.length (some (k : Int)) = min k xs.length := by
    show (if (k : Int) < 0 then ((k : Int) + (xs.length : Int)).toNat else min (k : Int).toNat xs.length) = _
    rw [if_neg (by omega)]
    rfl
  rw [e2, HT.sIx_none]
  show (xs.drop 0).take (min k xs.length - 0) = _
  rw [List.drop_zero, Nat.sub_zero]
  by_cases h : k ≤ xs.length
  · rw [Nat.min_eq_left h]
  · rw [Nat.min_eq_right (by omega), List.take_length, List.take_of_length_le (by omega)]
theorem cut_dropS {xs : List V} {k : Nat} : cutV xs (some (k : Int)) none = xs.drop k := by
  unfold cutV
  have e1 : HT.sIx xs.length 0 (some (k : Int)) = min k xs.length := by
    show (if (k : Int) < 0 then ((k : Int) + (xs.length : Int)).toNat else min (k : Int).toNat xs.length) = _
    rw [if_neg (by omega)]
    rfl
  rw [e1, HT.sIx_none]
  by_cases h : k ≤ xs.length
  · rw [Nat.min_eq_left h]
    exact List.take_of_length_le (by rw [List.length_drop]; exact Nat.le_refl _)
  · rw [Nat.min_eq_right (by omega), List.drop_of_length_le (by omega), List.drop_of_length_le (by omega), List.take_nil]
theorem paired_take {α β : Type} {F : α → β → Prop} : ∀ {xs : List α} {ys : List β} (k : Nat), Paired F xs ys → Paired F (xs.take k) (ys.take k)
  | _, _, _, .nil => by simp only [List.take_nil]; exact .nil
  | _, _, 0, .cons _ _ => by simp only [List.take_zero]; exact .nil
  | _, _, k + 1, .cons r t => by simp only [List.take_succ_cons]; exact .cons r (paired_take k t)
theorem paired_drop {α β : Type} {F : α → β → Prop} : ∀ {xs : List α} {ys : List β} (k : Nat), Paired F xs ys → Paired F (xs.drop k) (ys.drop k)
  | _, _, _, .nil => by simp only [List.drop_nil]; exact .nil
  | _, _, 0, .cons r t => .cons r t
  | _, _, k + 1, .cons _ t => by simp only [List.drop_succ_cons]; exact paired_drop k t
theorem ch8 (T : Top K mg) (hN : base.NoSeer) (hT : P.given.tree = none) {cdv : Value} {A : Around} {outer : List Env} {s : Shared} {H0 : Hp} {E : XK} (hr : Room 48 (A.deeper (envOfC "law" (defScope s_law) s.heap.objs.size T.a_law cdv))) :
    PSs (XL P w base T cdv A outer s H0 E) ((defBody s_law).drop 8) (tK (M8 K T.C_Grid)) := by
  refine pss_wk ((pss_cons (ps_if (pt_cmpR op_eq (pv 2) pe_int (nomark _))
      (pss_one (ps_ret (pe_c (cal_law_refused T hN hT) hr (by decide) (by rfl) (pa_cons (pe_mk (mak_Grid T hN hT) hr (by decide) (by rfl) (pa_cons (pe_lst (pa_cons (pe_lst (pa_cons pe_int (pa_cons pe_int pa_nil))) pa_nil)) (pa_cons pe_int pa_nil))) pa_nil))))
      pss_nil)
      (pss_cons (ps_set (i := 6) sc_law.nd rfl (by first | exact .inl rfl | exact .inr rfl) (pe_c (cal_law_take T hN hT) hr (by decide) (by rfl) (pa_cons (pv 1) (pa_cons (pv 2) pa_nil))))
      (pss_cons (ps_set (i := 7) sc_law.nd rfl (by first | exact .inl rfl | exact .inr rfl) (pe_ix (ixL K rfl) (pe_lst (pa_cons pe_int (pa_cons pe_int (pa_cons (pe_un un_neg pe_int) pa_nil)))) (pe_c (cal_law_take T hN hT) hr (by decide) (by rfl) (pa_cons (pv 1) (pa_cons pe_int pa_nil))) (fun _ _ => rfl)))
      (pss_cons (ps_set (i := 8) sc_law.nd rfl (by first | exact .inl rfl | exact .inr rfl) (pe_op (catK K rfl) (pe_op (catK K rfl) (pe_slice (slTK K rfl) (pv 3) po_none (po_some (pv 6))) (pe_tup (pa_cons (pe_callTy (tupK K rfl) (by rfl) T.z_tuple (by decide +kernel) (pa_cons (pe_lc (own := [("x", 9)]) (g := (gName 9)) (by rfl) sc_law.nd (piS K rfl (pe_ix (ixT K rfl) (pv 3) (pv 6) (fun _ _ => rfl))) ((by show BlkOk ["script", "state", "n", "rows", "grid", "other", "at", "factor", "bad", "x"] (defScope s_law) _ _; exact blkOk_by (by decide +kernel))) (fun _ _ _ _ _ => (pg_name (i := 9) sc_law.nd rfl (by first | exact .inl rfl | exact .inr rfl))) (fun _ _ _ _ _ => pts_nil) (fun _ _ _ _ _ => (pe_op op_mulX (pv 7) (pv 9)))) pa_nil)) pa_nil))) (pe_slice (slTK K rfl) (pv 3) (po_some (pe_op op_add (pv 6) pe_int)) po_none)))
      (pss_one (ps_ret (pe_c (cal_law_refused T hN hT) hr (by decide) (by rfl) (pa_cons (pe_mk (mak_Grid T hN hT) hr (by decide) (by rfl) (pa_cons (pv 8) (pa_cons (pv 2) pa_nil))) pa_nil))))))))) ?_
  rintro D σ H ⟨⟨s0, p, n, rv, gv, ov, m, rfl, st, n4, U, hr'⟩, q⟩
  have sq := uni_sq U
  have lm := sq.len
  refine ⟨_, rfl, rfl, _, rfl, ?_⟩
  by_cases h0 : n = 0
  · subst h0
    rw [show decide (V.int ((0 : Nat) : Int) = V.int 0) = true from rfl]
    refine iteT ?_
    refine ⟨by show 2 ≤ sizeLine; decide, fun a1 na1 => ?_⟩
    have s1 := same_upd (o := .lst [V.int 1, V.int 0]) na1
    have e1 : (upd H a1 (.lst [V.int 1, V.int 0])) a1 = some (.lst [V.int 1, V.int 0]) := upd_same
    generalize upd H a1 (.lst [V.int 1, V.int 0]) = H1 at s1 e1 ⊢
    refine ⟨by show 1 ≤ sizeLine; decide, fun a2 na2 => ?_⟩
    have s2 := same_upd (o := .lst [V.ref a1]) na2
    have e2 : (upd H1 a2 (.lst [V.ref a1])) a2 = some (.lst [V.ref a1]) := upd_same
    generalize upd H1 a2 (.lst [V.ref a1]) = H2 at s2 e2 ⊢
    intro x7 xd7 nx7 nxd7 nex7
    refine make_grid2 (C := T.C_Grid) (m := [[1, 0]]) (w := 2) nx7 nxd7 ⟨a2, _, rfl, .inl (.inl (.inl e2)), .cons ⟨a1, rfl, .inl (.inl (.inl (s2 _ _ e1)))⟩ .nil⟩ (by decide) (by decide) (by decide) fun H3 s3 G3 => ⟨rfl, ?_⟩
    exact ⟨.ref x7, [[1, 0]], 2, rfl, G3, .inl (by decide), fun H4 => q H4⟩
  rw [decide_eq_false fun z => h0 (by have := V.int.inj z; omega)]
  refine iteF ?_
  refine ⟨_, rfl, _, rfl, p, n, rfl, st, by omega, by omega, fun i H1 hi o1 st1 => ?_⟩
  have hr1 := trowsS st o1 hr'
  refine ⟨_, rfl, by show 3 ≤ sizeLine; decide, fun af naf => ?_⟩
  have sf := same_upd (o := .lst [V.int 0, V.int 2, V.int (-3)]) naf
  have ef : (upd H1 af (.lst [V.int 0, V.int 2, V.int (-3)])) af = some (.lst [V.int 0, V.int 2, V.int (-3)]) := upd_same
  have st2 := st1.same sf
  obtain ⟨fl, hfl⟩ : ∃ fl : List Int, fl = [0, 2, -3] := ⟨_, rfl⟩
  refine ⟨_, rfl, p, 3, rfl, st2, by decide, by decide, fun r H2 hr2 o2 st3 => ?_⟩
  have naf' : af ≠ p := by
    obtain ⟨_, _, e, _⟩ := st1
    exact Ne.symm (ne_of_none e naf)
  have ef2 := o2 _ _ naf' ef
  obtain ⟨f, ev, hf⟩ : ∃ f : Int, ([V.int 0, V.int 2, V.int (-3)] : List V)[r]? = some (V.int f) ∧ (f = 0 ∨ f = 2 ∨ f = -3) := by
    rcases r with _ | _ | _ | r
    · exact ⟨0, rfl, .inl rfl⟩
    · exact ⟨2, rfl, .inr (.inl rfl)⟩
    · exact ⟨-3, rfl, .inr (.inr rfl)⟩
    · omega
  refine ⟨af, _, _, _, rfl, rfl, .inl (.inl ef2), at_of (j := r) rfl ev, ?_⟩
  have hr3 := trowsS st2 o2 (TRows.same sf hr1)
  obtain ⟨ra, ws, rfl, hsq, hp⟩ := id hr3
  have lw := Paired.length hp
  refine ⟨_, rfl, ?_⟩
  dsimp only [tNoPart]
  refine ⟨_, rfl, (i : Int), rfl, ?_⟩
  refine sl_any hsq fun b3 H3 s3 e3 => ?_
  rw [cut_takeS] at e3
  have hi' : i < m.length := by rw [lm]; exact hi
  obtain ⟨row, erow⟩ : ∃ row, m[i]? = some row := ⟨_, List.getElem?_eq_getElem hi'⟩
  obtain ⟨wv, ewv, qa, rfl, hqa⟩ := Paired.getL hp erow
  have lr := sq.row row (List.mem_of_getElem? erow)
  have br := sq.bits row (List.mem_of_getElem? erow)
  refine ⟨_, rfl, _, rfl, ra, ws, _, _, rfl, rfl, Same.seqT s3 hsq, at_of (j := i) rfl ewv, qa, _, rfl, .inr (Same.seqT s3 hqa), fun J G W hG D hD => ?_⟩
  refine lc_all W hD (by rw [List.length_map]; omega) (fun H4 s4 => hG H4 fun b _ o => s4 b o) (fun j v _ => ∃ z, (row.map fun x => f * x)[j]? = some z ∧ v = .int z) (fun _ _ _ _ _ _ _ h => h) ?_ gm_name ?_
  · rintro j y H4 H4' acc Ko hj s4 eD ⟨rfl, ey⟩ kk
    obtain ⟨z, ez, rfl⟩ := ints_get ey
    refine ⟨rfl, ?_⟩
    refine ⟨_, rfl, _, rfl, _, _, rfl, rfl, mulx_ok (show f.natAbs < 2 ^ 2 by rcases hf with rfl | rfl | rfl <;> decide) (br.at ez) (by decide), ?_⟩
    exact kk _ _ (Same.refl _) ⟨f * z, by rw [List.getElem?_map, ez]; rfl, rfl⟩
  intro H4 l4 s4 eD4 hpl4
  have el := ints_list (by rw [List.length_map, List.length_map]) hpl4
  subst el
  refine ⟨D, _, rfl, .inl ⟨.inl (.inl eD4), fun t nt => ?_⟩⟩
  have s5 := same_upd (o := .tup ((row.map fun x => f * x).map V.int)) nt
  have et : (upd H4 t (.tup ((row.map fun x => f * x).map V.int))) t = some (.tup ((row.map fun x => f * x).map V.int)) := upd_same
  generalize upd H4 t (.tup ((row.map fun x => f * x).map V.int)) = H5 at s5 et ⊢
  refine ⟨by show 1 ≤ sizeLine; decide, fun u nu => ?_⟩
  have s6 := same_upd (o := .tup [V.ref t]) nu
  have eu : (upd H5 u (.tup [V.ref t])) u = some (.tup [V.ref t]) := upd_same
  generalize upd H5 u (.tup [V.ref t]) = H6 at s6 eu ⊢
  have s36 := s4.trans (s5.trans s6)
  refine cat_any (Same.seqT s36 e3) (.inl (.inl eu)) (by rw [List.length_take]; show min i ws.length + 1 ≤ 100; omega) fun c7 H7 s7 e7 => ?_
  have s37 := s36.trans s7
  refine ⟨_, rfl, _, rfl, _, _, rfl, rfl, (i : Int) + 1, rfl, ?_⟩
  dsimp only [tNoPart]
  refine sl_any (Same.seqT (s3.trans s37) hsq) fun b8 H8 s8 e8 => ?_
  rw [show (i : Int) + 1 = ((i + 1 : Nat) : Int) by omega, cut_dropS] at e8
  refine cat_any (Same.seqT s8 e7) e8 (by rw [List.length_append, List.length_take, List.length_drop]; show min i ws.length + 1 + (ws.length - (i + 1)) ≤ 100; omega) fun c9 H9 s9 e9 => ?_
  have s49 := s6.trans (s7.trans (s8.trans s9))
  have sall := s3.trans (s37.trans (s8.trans s9))
  have set_eq : m.set i (row.map fun x => f * x) = m.take i ++ [row.map fun x => f * x] ++ m.drop (i + 1) := by
    rw [List.set_eq_take_append_cons_drop, if_pos hi', List.append_assoc]
    rfl
  have hp9 : Paired (TRow K H9) (ws.take i ++ [V.ref t] ++ ws.drop (i + 1)) (m.set i (row.map fun x => f * x)) := by
    rw [set_eq]
    have hp' := L2.Paired.mapP hp fun _ _ h => TRow.same sall h
    exact paired_app (paired_app (paired_take i hp') (.cons ⟨t, rfl, .inl (.inl (s49 _ _ et))⟩ .nil)) (paired_drop (i + 1) hp')
  have hT9 : TRows K H9 (.ref c9) (m.set i (row.map fun x => f * x)) := ⟨c9, _, rfl, e9, hp9⟩
  have ge : m.getD i [] = row := by rw [List.getD_eq_getElem?_getD, erow]; rfl
  have hdet : (detL n (m.set i (row.map fun x => f * x))).natAbs ≠ 1 := by
    have := det_scale (z := f) sq.sz n4 hi
    rw [ge] at this
    rw [this, Int.natAbs_mul, U.det]
    rcases hf with rfl | rfl | rfl <;> decide
  have sq9 : Sq n 12 (m.set i (row.map fun x => f * x)) := by
    refine ⟨by rw [List.length_set]; exact lm, fun r hr => ?_, fun r hr x hx => ?_⟩
    · rcases List.mem_or_eq_of_mem_set hr with hr | rfl
      · exact sq.row r hr
      · rw [List.length_map]; exact lr
    · rcases List.mem_or_eq_of_mem_set hr with hr | rfl
      · exact Nat.lt_of_lt_of_le (sq.bits r hr x hx) (by decide)
      · obtain ⟨y, hy, rfl⟩ := List.mem_map.mp hx
        have h1 : y.natAbs < 1024 := br y hy
        show (f * y).natAbs < 4096
        rw [Int.natAbs_mul]
        rcases hf with rfl | rfl | rfl
        · show 0 * y.natAbs < 4096; omega
        · show 2 * y.natAbs < 4096; omega
        · show 3 * y.natAbs < 4096; omega
  refine ⟨_, rfl, _, rfl, ?_⟩
  intro x7 xd7 nx7 nxd7 nex7
  refine make_grid2 (C := T.C_Grid) (m := m.set i (row.map fun x => f * x)) (w := n) nx7 nxd7 hT9.rows (by rw [sq9.len]; omega) (by omega) sq9.row fun HA sA GA => ⟨rfl, ?_⟩
  exact ⟨.ref x7, _, n, rfl, GA, .inr ⟨12, sq9, n4, by decide, hdet⟩, fun HB => q HB⟩
theorem ch5 (T : Top K mg) (hN : base.NoSeer) (hT : P.given.tree = none) {cdv : Value} {A : Around} {outer : List Env} {s : Shared} {H0 : Hp} {E : XK} (hr : Room 48 (A.deeper (envOfC "law" (defScope s_law) s.heap.objs.size T.a_law cdv))) :
    PSs (XL P w base T cdv A outer s H0 E) ((defBody s_law).drop 5) (tK (M5 K T.C_Grid)) := by
  refine pss_wk ((pss_cons (ps_if (PW.pt (pw_or (pt_cmpR op_notBl (pe_mt0 (met_Grid_is_unimodular T hN hT) hr (by decide) (pv 4)) pe_bl (nomark _)) (pw_or1 (pt_not (pt_val (pe_c (cal_law_is_rows T hN hT) hr (by decide) (by rfl) (pa_cons (pv 5) (pa_cons (pv 2) (pa_cons (pv 2) pa_nil)))))))))
      (pss_one (ps_ret pe_bl))
      pss_nil)
      (pss_cons (ps_if (PW.pt (pw_or (pt_cmpR (neDK K rfl hr) (pe_c (cal_law_product T hN hT) hr (by decide) (by rfl) (pa_cons (pv 3) (pa_cons (fldK K rfl (pv 5) rfl) (pa_cons (pv 2) pa_nil)))) (pe_c (cal_law_unit T hN hT) hr (by decide) (by rfl) (pa_cons (pv 2) pa_nil)) (nomark _)) (pw_or1 (pt_cmpR (neDK K rfl hr) (pe_c (cal_law_product T hN hT) hr (by decide) (by rfl) (pa_cons (fldK K rfl (pv 5) rfl) (pa_cons (pv 3) (pa_cons (pv 2) pa_nil)))) (pe_c (cal_law_unit T hN hT) hr (by decide) (by rfl) (pa_cons (pv 2) pa_nil)) (nomark _)))))
      (pss_one (ps_ret pe_bl))
      pss_nil)
      (pss_cons (ps_if (pt_cmpR ((op_ownNe (E := L2.E0) T.km_Grid T.ne_Grid T.m_Grid_eq.at_ T.m_Grid_eq.fn (ok_Grid_eq T hN hT) (hr.mono (by decide)) T.b_Grid_eq (fun _ _ _ _ h => h.elim))) (pe_mt0 (met_Grid_inverse T hN hT) hr (by decide) (pv 5)) (pv 4) (nomark _))
      (pss_one (ps_ret pe_bl))
      pss_nil)
      (ch8 T hN hT hr))))) ?_
  rintro D σ H ⟨⟨s0, p, n, rv, gv, ov, m, rfl, st, n4, U, hr', G, G2⟩, q⟩
  have sq := uni_sq U
  have hd := U.det
  have bd := bare_det n4 sq.sz
  have iq := invG_sq n4 sq hd
  obtain ⟨⟨pg, dg, tg, rfl, hog, htg⟩, hrg⟩ := id G
  obtain ⟨⟨po, d_o, to, rfl, hoo, hto⟩, hro⟩ := id G2
  refine ⟨_, rfl, pg, dg, _, rfl, hog, m_is_unimodular _ _, .ref pg, m, n, rfl, G, .inr ⟨10, sq, by omega, by decide, fun H1 s1 => ?_⟩⟩
  rw [bd, decide_eq_true hd]
  refine ⟨_, _, rfl, rfl, _, rfl, ?_⟩
  refine iteF ?_
  have G21 := IsGrid.same s1 G2
  refine ⟨_, rfl, _, rfl, _, rfl, .ref po, invG n m, n, n, rfl, G21, iq.len, by omega, _, rfl, ?_⟩
  refine iteF ?_
  have hr1 := TRows.same s1 hr'
  have iu : ∀ r ∈ invG n m, Bits 55 r := iq.bits
  refine ⟨_, rfl, _, rfl, po, T.C_Grid, d_o, _, to, rfl, s1 _ _ hoo, T.cl_Grid, T.n_rows, flds_rows _ _, _, rfl, rv, to, m, invG n m, n, 10, 55, rfl, hr1, TRows.same s1 hto, by rw [sq.len]; omega, by rw [iq.len]; omega, by omega, fun r hx => (sq.row r hx).trans iq.len.symm, iq.row, sq.bits, iu, by decide, fun v2 H2 s2 t2 => ?_⟩
  refine ⟨_, rfl, n, rfl, by omega, fun u2 H3 s3 w2 => ?_⟩
  rw [mul_invG n4 sq hd] at t2
  refine ne_rows (TRows.same s3 t2) w2 rfl ⟨_, rfl, ?_⟩
  refine iteF ?_
  have s13 := s1.trans (s2.trans s3)
  refine ⟨_, rfl, po, T.C_Grid, d_o, _, to, rfl, s13 _ _ hoo, T.cl_Grid, T.n_rows, flds_rows _ _, _, rfl, _, rfl, to, rv, invG n m, m, n, 55, 10, rfl, TRows.same s13 hto, TRows.same s13 hr', by rw [iq.len]; omega, by rw [sq.len]; omega, by omega, fun r hx => (iq.row r hx).trans sq.len.symm, sq.row, iu, sq.bits, by decide, fun v4 H4 s4 t4 => ?_⟩
  refine ⟨_, rfl, n, rfl, by omega, fun u4 H5 s5 w4 => ?_⟩
  rw [invG_mul n4 sq hd] at t4
  refine ne_rows (TRows.same s5 t4) w4 rfl ⟨_, rfl, ?_⟩
  refine iteF ?_
  have s15 := s13.trans (s4.trans s5)
  refine ⟨_, rfl, po, d_o, _, rfl, s15 _ _ hoo, m_inverse _ _, .ref po, invG n m, n, 55, rfl, IsGrid.same s15 G2, iq, n4, by decide, det_invG n4 sq hd, fun g6 H6 s6 G6 => ?_⟩
  have s16 := s15.trans s6
  rw [invG_invG n4 sq hd] at G6
  obtain ⟨⟨p6, d6, t6, rfl, ho6, _⟩, _⟩ := id G6
  refine ⟨_, rfl, p6, pg, d6, dg, _, _, rfl, rfl, ho6, s16 _ _ hog, .ref p6, m, n, .ref pg, m, rfl, G6, .inl ⟨n, IsGrid.same s16 G, _, rfl, _, rfl, ?_⟩⟩
  rw [decide_eq_true (show m = m ∧ n = n from ⟨rfl, rfl⟩)]
  refine iteF ?_
  exact ⟨⟨s0, p, n, rv, .ref pg, .ref po, m, rfl, st.same s16, n4, U, TRows.same s16 hr'⟩, q⟩
theorem ok_law (T : Top K mg) (hN : base.NoSeer) (hT : P.given.tree = none) : FnOk P w K mg base CX0 49 T.a_law T.d_law ["script"] (sp_law K) := by
  refine T.F_law.ok sc_law (fun vs H Q E h => ?_) (fun cdv A outer s H vs Q E hr h => ?_)
  · obtain ⟨a, ns, rfl, _⟩ := h
    rfl
  · obtain ⟨a0, ns, rfl, hsc, hl, hb, q⟩ := h
    refine ⟨_, ((pss_cons (ps_set (i := 1) sc_law.nd rfl (by first | exact .inl rfl | exact .inr rfl) (pe_c (cal_law_state T hN hT) hr (by decide) (by rfl) (pa_cons (pv 0) pa_nil)))
      (pss_cons (ps_set (i := 2) sc_law.nd rfl (by first | exact .inl rfl | exact .inr rfl) (pe_c (cal_law_take T hN hT) hr (by decide) (by rfl) (pa_cons (pv 1) (pa_cons pe_int pa_nil))))
      (pss_cons (ps_set (i := 3) sc_law.nd rfl (by first | exact .inl rfl | exact .inr rfl) (pe_c (cal_law_unimodular T hN hT) hr (by decide) (by rfl) (pa_cons (pv 1) (pa_cons (pv 2) pa_nil))))
      (pss_cons (ps_set (i := 4) sc_law.nd rfl (by first | exact .inl rfl | exact .inr rfl) (pe_mk (mak_Grid T hN hT) hr (by decide) (by rfl) (pa_cons (pv 3) (pa_cons (pv 2) pa_nil))))
      (pss_cons (ps_set (i := 5) sc_law.nd rfl (by first | exact .inl rfl | exact .inr rfl) (pe_mt0 (met_Grid_inverse T hN hT) hr (by decide) (pv 4)))
      (ch5 T hN hT hr))))))), ?_⟩
    refine ⟨_, rfl, a0, ns, rfl, hsc, hl, fun p H1 s1 np st1 => ?_⟩
    refine ⟨_, rfl, p, 5, rfl, st1, by decide, by decide, fun n H2 hn2 o2 st2 => ?_⟩
    refine ⟨_, rfl, _, rfl, p, n, rfl, st2, by omega, fun rv m H3 o3 st3 hv U => ?_⟩
    have sq := uni_sq U
    have n4 : n ≤ 4 := by omega
    refine ⟨_, rfl, _, rfl, ?_⟩
    intro x7 xd7 nx7 nxd7 nex7
    refine make_grid2 (C := T.C_Grid) (m := m) (w := n) nx7 nxd7 hv.rows (by rw [sq.len]; omega) (by omega) sq.row fun H4 s4 G4 => ⟨rfl, ?_⟩
    obtain ⟨⟨pg, dg, tg, eg, hog, _⟩, _⟩ := id G4
    cases eg
    refine ⟨_, rfl, x7, dg, _, rfl, hog, m_inverse _ _, .ref x7, m, n, 10, rfl, G4, sq, n4, by decide, U.det, fun g5 H5 s5 G5 => ?_⟩
    exact ⟨⟨some (.ref a0), p, n, rv, .ref x7, g5, m, rfl, (st3.same s4).same s5, n4, U, TRows.same (s4.trans s5) hv, IsGrid.same s5 G4, G5⟩, q⟩

end
end K03
namespace K03
open PySem PySem.Spec PyProof.Rows L2 Gm
theorem all_mk {l : PySem.W.OpenLaw} {w : World} {K : PySem.W.Frag} {h : Heap} {mg : Str → Option Value} {fa C_Grid X_Malformed X_Refused f1 f2 f3 f4 f5 f6 f7 f8 f9 f10 f11 f12 f13 f14 f15 f16 f17 f18 f19 f20 f21 f22 f23 f24 f25 f26 f27 f28 f29 : Addr} (X : K.In h) (G : h.Ns mainGlobals mg) (hfa : mg "law" = some (.ref fa)) (hT : l.prog.given.tree = none)
    {od1 an1 od2 an2 od3 an3 od4 an4 od5 an5 od6 an6 od7 an7 od8 an8 od9 an9 od10 an10 od11 an11 od12 an12 od13 an13 od14 an14 od15 an15 od16 an16 od17 an17 od18 an18 od19 an19 od20 an20 od21 an21 od22 an22 od23 an23 od24 an24 od25 an25 od26 an26 od27 an27 od28 an28 od29 an29 : Option Addr} {sl1 sl2 sl3 sl4 sl5 sl6 sl7 sl8 sl9 sl10 sl11 sl12 sl13 sl14 sl15 sl16 sl17 sl18 sl19 sl20 sl21 sl22 sl23 sl24 sl25 sl26 sl27 sl28 sl29 : Array (Option Value)} {oc1 kV1 dc1 pm1 cd1 ct1 oc2 kV2 dc2 pm2 cd2 ct2 oc3 kV3 dc3 pm3 cd3 ct3 oc4 kV4 dc4 pm4 cd4 ct4 oc5 kV5 dc5 pm5 cd5 ct5 oc6 kV6 dc6 pm6 cd6 ct6 oc7 kV7 dc7 pm7 cd7 ct7 oc8 kV8 dc8 pm8 cd8 ct8 oc9 kV9 dc9 pm9 cd9 ct9 oc10 kV10 dc10 pm10 cd10 ct10 oc11 kV11 dc11 pm11 cd11 ct11 oc12 kV12 dc12 pm12 cd12 ct12 oc13 kV13 dc13 pm13 cd13 ct13 oc14 kV14 dc14 pm14 cd14 ct14 oc15 kV15 dc15 pm15 cd15 ct15 oc16 kV16 dc16 pm16 cd16 ct16 oc17 kV17 dc17 pm17 cd17 ct17 oc18 kV18 dc18 pm18 cd18 ct18 oc19 kV19 dc19 pm19 cd19 ct19 oc20 kV20 dc20 pm20 cd20 ct20 oc21 kV21 dc21 pm21 cd21 ct21 oc22 kV22 dc22 pm22 cd22 ct22 oc23 kV23 dc23 pm23 cd23 ct23 oc24 kV24 dc24 pm24 cd24 ct24 oc25 kV25 dc25 pm25 cd25 ct25 oc26 kV26 dc26 pm26 cd26 ct26 oc27 kV27 dc27 pm27 cd27 ct27 oc28 kV28 dc28 pm28 cd28 ct28 oc29 kV29 dc29 pm29 cd29 ct29 : Value}
    {t9 : Addr} {tc9 : Value} {td9 : Option Addr} {tn9 : Nat} {ts9 : Array (Option Value)}
    {nm_Refused q_Refused : Str} {N_Refused : Addr} {bs_Refused bm_Refused : List Value} {sn_Refused sub_Refused ab_Refused col_Refused dd_Refused k0_Refused k1_Refused k2_Refused k3_Refused k5_Refused : _}
    (A1 : PySem.W.findIn K (.ref X_Refused) "__init__" = some (some (.ref f1)))
    (I1 : PySem.W.isFn K (.ref f1) = true)
    (L1 : K.lookup f1 = some ⟨oc1, od1, .func (PySem.W.fnOf "__init__" "Refused.__init__" (defArgs s_Refused_init) (defBody s_Refused_init) (defScope s_Refused_init) .none kV1 dc1 pm1 an1 cd1 ct1), sl1⟩)
    (D1 : PySem.W.codeIn K cd1 "Refused.__init__" = true)
    (K1 : PySem.W.keepIn K (.ref f1) = true)
    (A2 : PySem.W.nsIn K mainGlobals "is_integer" = some (some (.ref f2)))
    (L2 : K.lookup f2 = some ⟨oc2, od2, .func (PySem.W.fnOf "is_integer" "is_integer" (defArgs s_is_integer) (defBody s_is_integer) (defScope s_is_integer) .none kV2 dc2 pm2 an2 cd2 ct2), sl2⟩)
    (D2 : PySem.W.codeIn K cd2 "is_integer" = true)
    (K2 : PySem.W.keepIn K (.ref f2) = true)
    (A3 : PySem.W.nsIn K mainGlobals "determinant_of" = some (some (.ref f3)))
    (L3 : K.lookup f3 = some ⟨oc3, od3, .func (PySem.W.fnOf "determinant_of" "determinant_of" (defArgs s_determinant_of) (defBody s_determinant_of) (defScope s_determinant_of) .none kV3 dc3 pm3 an3 cd3 ct3), sl3⟩)
    (D3 : PySem.W.codeIn K cd3 "determinant_of" = true)
    (K3 : PySem.W.keepIn K (.ref f3) = true)
    (A4 : PySem.W.nsIn K mainGlobals "first_with_head" = some (some (.ref f4)))
    (L4 : K.lookup f4 = some ⟨oc4, od4, .func (PySem.W.fnOf "first_with_head" "first_with_head" (defArgs s_first_with_head) (defBody s_first_with_head) (defScope s_first_with_head) .none kV4 dc4 pm4 an4 cd4 ct4), sl4⟩)
    (D4 : PySem.W.codeIn K cd4 "first_with_head" = true)
    (K4 : PySem.W.keepIn K (.ref f4) = true)
    (A5 : PySem.W.nsIn K mainGlobals "cleared" = some (some (.ref f5)))
    (L5 : K.lookup f5 = some ⟨oc5, od5, .func (PySem.W.fnOf "cleared" "cleared" (defArgs s_cleared) (defBody s_cleared) (defScope s_cleared) .none kV5 dc5 pm5 an5 cd5 ct5), sl5⟩)
    (D5 : PySem.W.codeIn K cd5 "cleared" = true)
    (K5 : PySem.W.keepIn K (.ref f5) = true)
    (A6 : PySem.W.nsIn K mainGlobals "minor" = some (some (.ref f6)))
    (L6 : K.lookup f6 = some ⟨oc6, od6, .func (PySem.W.fnOf "minor" "minor" (defArgs s_minor) (defBody s_minor) (defScope s_minor) .none kV6 dc6 pm6 an6 cd6 ct6), sl6⟩)
    (D6 : PySem.W.codeIn K cd6 "minor" = true)
    (K6 : PySem.W.keepIn K (.ref f6) = true)
    (A7 : PySem.W.nsIn K mainGlobals "adjugate_of" = some (some (.ref f7)))
    (L7 : K.lookup f7 = some ⟨oc7, od7, .func (PySem.W.fnOf "adjugate_of" "adjugate_of" (defArgs s_adjugate_of) (defBody s_adjugate_of) (defScope s_adjugate_of) .none kV7 dc7 pm7 an7 cd7 ct7), sl7⟩)
    (D7 : PySem.W.codeIn K cd7 "adjugate_of" = true)
    (K7 : PySem.W.keepIn K (.ref f7) = true)
    (A8 : PySem.W.nsIn K mainGlobals "signed_minor" = some (some (.ref f8)))
    (L8 : K.lookup f8 = some ⟨oc8, od8, .func (PySem.W.fnOf "signed_minor" "signed_minor" (defArgs s_signed_minor) (defBody s_signed_minor) (defScope s_signed_minor) .none kV8 dc8 pm8 an8 cd8 ct8), sl8⟩)
    (D8 : PySem.W.codeIn K cd8 "signed_minor" = true)
    (K8 : PySem.W.keepIn K (.ref f8) = true)
    (A9 : PySem.W.findIn K (.ref C_Grid) "__init__" = some (some (.ref f9)))
    (I9 : PySem.W.isFn K (.ref f9) = true)
    (L9 : K.lookup f9 = some ⟨oc9, od9, .func (PySem.W.fnOf "__init__" "Grid.__init__" (defArgs s_Grid_init) (defBody s_Grid_init) (defScope s_Grid_init) (.ref t9) kV9 dc9 pm9 an9 cd9 ct9), sl9⟩)
    (T9 : K.lookup t9 = some ⟨tc9, td9, .seq [Value.none].toArray tn9, ts9⟩)
    (D9 : PySem.W.codeIn K cd9 "Grid.__init__" = true)
    (K9 : PySem.W.keepIn K (.ref f9) = true)
    (A10 : PySem.W.findIn K (.ref C_Grid) "__eq__" = some (some (.ref f10)))
    (I10 : PySem.W.isFn K (.ref f10) = true)
    (L10 : K.lookup f10 = some ⟨oc10, od10, .func (PySem.W.fnOf "__eq__" "Grid.__eq__" (defArgs s_Grid_eq) (defBody s_Grid_eq) (defScope s_Grid_eq) .none kV10 dc10 pm10 an10 cd10 ct10), sl10⟩)
    (D10 : PySem.W.codeIn K cd10 "Grid.__eq__" = true)
    (K10 : PySem.W.keepIn K (.ref f10) = true)
    (A11 : PySem.W.findIn K (.ref C_Grid) "__len__" = some (some (.ref f11)))
    (I11 : PySem.W.isFn K (.ref f11) = true)
    (L11 : K.lookup f11 = some ⟨oc11, od11, .func (PySem.W.fnOf "__len__" "Grid.__len__" (defArgs s_Grid_len) (defBody s_Grid_len) (defScope s_Grid_len) .none kV11 dc11 pm11 an11 cd11 ct11), sl11⟩)
    (D11 : PySem.W.codeIn K cd11 "Grid.__len__" = true)
    (K11 : PySem.W.keepIn K (.ref f11) = true)
    (A12 : PySem.W.findIn K (.ref C_Grid) "scaled" = some (some (.ref f12)))
    (I12 : PySem.W.isFn K (.ref f12) = true)
    (L12 : K.lookup f12 = some ⟨oc12, od12, .func (PySem.W.fnOf "scaled" "Grid.scaled" (defArgs s_Grid_scaled) (defBody s_Grid_scaled) (defScope s_Grid_scaled) .none kV12 dc12 pm12 an12 cd12 ct12), sl12⟩)
    (D12 : PySem.W.codeIn K cd12 "Grid.scaled" = true)
    (K12 : PySem.W.keepIn K (.ref f12) = true)
    (A13 : PySem.W.findIn K (.ref C_Grid) "is_square" = some (some (.ref f13)))
    (I13 : PySem.W.isFn K (.ref f13) = true)
    (L13 : K.lookup f13 = some ⟨oc13, od13, .func (PySem.W.fnOf "is_square" "Grid.is_square" (defArgs s_Grid_is_square) (defBody s_Grid_is_square) (defScope s_Grid_is_square) .none kV13 dc13 pm13 an13 cd13 ct13), sl13⟩)
    (D13 : PySem.W.codeIn K cd13 "Grid.is_square" = true)
    (K13 : PySem.W.keepIn K (.ref f13) = true)
    (A14 : PySem.W.findIn K (.ref C_Grid) "determinant" = some (some (.ref f14)))
    (I14 : PySem.W.isFn K (.ref f14) = true)
    (L14 : K.lookup f14 = some ⟨oc14, od14, .func (PySem.W.fnOf "determinant" "Grid.determinant" (defArgs s_Grid_determinant) (defBody s_Grid_determinant) (defScope s_Grid_determinant) .none kV14 dc14 pm14 an14 cd14 ct14), sl14⟩)
    (D14 : PySem.W.codeIn K cd14 "Grid.determinant" = true)
    (K14 : PySem.W.keepIn K (.ref f14) = true)
    (A15 : PySem.W.findIn K (.ref C_Grid) "adjugate" = some (some (.ref f15)))
    (I15 : PySem.W.isFn K (.ref f15) = true)
    (L15 : K.lookup f15 = some ⟨oc15, od15, .func (PySem.W.fnOf "adjugate" "Grid.adjugate" (defArgs s_Grid_adjugate) (defBody s_Grid_adjugate) (defScope s_Grid_adjugate) .none kV15 dc15 pm15 an15 cd15 ct15), sl15⟩)
    (D15 : PySem.W.codeIn K cd15 "Grid.adjugate" = true)
    (K15 : PySem.W.keepIn K (.ref f15) = true)
    (A16 : PySem.W.findIn K (.ref C_Grid) "is_unimodular" = some (some (.ref f16)))
    (I16 : PySem.W.isFn K (.ref f16) = true)
    (L16 : K.lookup f16 = some ⟨oc16, od16, .func (PySem.W.fnOf "is_unimodular" "Grid.is_unimodular" (defArgs s_Grid_is_unimodular) (defBody s_Grid_is_unimodular) (defScope s_Grid_is_unimodular) .none kV16 dc16 pm16 an16 cd16 ct16), sl16⟩)
    (D16 : PySem.W.codeIn K cd16 "Grid.is_unimodular" = true)
    (K16 : PySem.W.keepIn K (.ref f16) = true)
    (A17 : PySem.W.findIn K (.ref C_Grid) "inverse" = some (some (.ref f17)))
    (I17 : PySem.W.isFn K (.ref f17) = true)
    (L17 : K.lookup f17 = some ⟨oc17, od17, .func (PySem.W.fnOf "inverse" "Grid.inverse" (defArgs s_Grid_inverse) (defBody s_Grid_inverse) (defScope s_Grid_inverse) .none kV17 dc17 pm17 an17 cd17 ct17), sl17⟩)
    (D17 : PySem.W.codeIn K cd17 "Grid.inverse" = true)
    (K17 : PySem.W.keepIn K (.ref f17) = true)
    (A18 : PySem.W.nsIn K mainGlobals "checked_rows" = some (some (.ref f18)))
    (L18 : K.lookup f18 = some ⟨oc18, od18, .func (PySem.W.fnOf "checked_rows" "checked_rows" (defArgs s_checked_rows) (defBody s_checked_rows) (defScope s_checked_rows) .none kV18 dc18 pm18 an18 cd18 ct18), sl18⟩)
    (D18 : PySem.W.codeIn K cd18 "checked_rows" = true)
    (K18 : PySem.W.keepIn K (.ref f18) = true)
    (A19 : PySem.W.nsIn K mainGlobals "checked_width" = some (some (.ref f19)))
    (L19 : K.lookup f19 = some ⟨oc19, od19, .func (PySem.W.fnOf "checked_width" "checked_width" (defArgs s_checked_width) (defBody s_checked_width) (defScope s_checked_width) .none kV19 dc19 pm19 an19 cd19 ct19), sl19⟩)
    (D19 : PySem.W.codeIn K cd19 "checked_width" = true)
    (K19 : PySem.W.keepIn K (.ref f19) = true)
    (A20 : PySem.W.nsIn K mainGlobals "check_square" = some (some (.ref f20)))
    (L20 : K.lookup f20 = some ⟨oc20, od20, .func (PySem.W.fnOf "check_square" "check_square" (defArgs s_check_square) (defBody s_check_square) (defScope s_check_square) .none kV20 dc20 pm20 an20 cd20 ct20), sl20⟩)
    (D20 : PySem.W.codeIn K cd20 "check_square" = true)
    (K20 : PySem.W.keepIn K (.ref f20) = true)
    (A21 : PySem.W.nsIn K mainGlobals "_law_state" = some (some (.ref f21)))
    (L21 : K.lookup f21 = some ⟨oc21, od21, .func (PySem.W.fnOf "_law_state" "_law_state" (defArgs s_law_state) (defBody s_law_state) (defScope s_law_state) .none kV21 dc21 pm21 an21 cd21 ct21), sl21⟩)
    (D21 : PySem.W.codeIn K cd21 "_law_state" = true)
    (K21 : PySem.W.keepIn K (.ref f21) = true)
    (A22 : PySem.W.nsIn K mainGlobals "_law_take" = some (some (.ref f22)))
    (L22 : K.lookup f22 = some ⟨oc22, od22, .func (PySem.W.fnOf "_law_take" "_law_take" (defArgs s_law_take) (defBody s_law_take) (defScope s_law_take) .none kV22 dc22 pm22 an22 cd22 ct22), sl22⟩)
    (D22 : PySem.W.codeIn K cd22 "_law_take" = true)
    (K22 : PySem.W.keepIn K (.ref f22) = true)
    (A23 : PySem.W.nsIn K mainGlobals "_law_product" = some (some (.ref f23)))
    (L23 : K.lookup f23 = some ⟨oc23, od23, .func (PySem.W.fnOf "_law_product" "_law_product" (defArgs s_law_product) (defBody s_law_product) (defScope s_law_product) .none kV23 dc23 pm23 an23 cd23 ct23), sl23⟩)
    (D23 : PySem.W.codeIn K cd23 "_law_product" = true)
    (K23 : PySem.W.keepIn K (.ref f23) = true)
    (A24 : PySem.W.nsIn K mainGlobals "_law_unit" = some (some (.ref f24)))
    (L24 : K.lookup f24 = some ⟨oc24, od24, .func (PySem.W.fnOf "_law_unit" "_law_unit" (defArgs s_law_unit) (defBody s_law_unit) (defScope s_law_unit) .none kV24 dc24 pm24 an24 cd24 ct24), sl24⟩)
    (D24 : PySem.W.codeIn K cd24 "_law_unit" = true)
    (K24 : PySem.W.keepIn K (.ref f24) = true)
    (A25 : PySem.W.nsIn K mainGlobals "_law_step" = some (some (.ref f25)))
    (L25 : K.lookup f25 = some ⟨oc25, od25, .func (PySem.W.fnOf "_law_step" "_law_step" (defArgs s_law_step) (defBody s_law_step) (defScope s_law_step) .none kV25 dc25 pm25 an25 cd25 ct25), sl25⟩)
    (D25 : PySem.W.codeIn K cd25 "_law_step" = true)
    (K25 : PySem.W.keepIn K (.ref f25) = true)
    (A26 : PySem.W.nsIn K mainGlobals "_law_unimodular" = some (some (.ref f26)))
    (L26 : K.lookup f26 = some ⟨oc26, od26, .func (PySem.W.fnOf "_law_unimodular" "_law_unimodular" (defArgs s_law_unimodular) (defBody s_law_unimodular) (defScope s_law_unimodular) .none kV26 dc26 pm26 an26 cd26 ct26), sl26⟩)
    (D26 : PySem.W.codeIn K cd26 "_law_unimodular" = true)
    (K26 : PySem.W.keepIn K (.ref f26) = true)
    (A27 : PySem.W.nsIn K mainGlobals "_law_is_rows" = some (some (.ref f27)))
    (L27 : K.lookup f27 = some ⟨oc27, od27, .func (PySem.W.fnOf "_law_is_rows" "_law_is_rows" (defArgs s_law_is_rows) (defBody s_law_is_rows) (defScope s_law_is_rows) .none kV27 dc27 pm27 an27 cd27 ct27), sl27⟩)
    (D27 : PySem.W.codeIn K cd27 "_law_is_rows" = true)
    (K27 : PySem.W.keepIn K (.ref f27) = true)
    (A28 : PySem.W.nsIn K mainGlobals "_law_refused" = some (some (.ref f28)))
    (L28 : K.lookup f28 = some ⟨oc28, od28, .func (PySem.W.fnOf "_law_refused" "_law_refused" (defArgs s_law_refused) (defBody s_law_refused) (defScope s_law_refused) .none kV28 dc28 pm28 an28 cd28 ct28), sl28⟩)
    (D28 : PySem.W.codeIn K cd28 "_law_refused" = true)
    (K28 : PySem.W.keepIn K (.ref f28) = true)
    (A29 : PySem.W.nsIn K mainGlobals "law" = some (some (.ref f29)))
    (L29 : K.lookup f29 = some ⟨oc29, od29, .func (PySem.W.fnOf "law" "law" (defArgs s_law) (defBody s_law) (defScope s_law) .none kV29 dc29 pm29 an29 cd29 ct29), sl29⟩)
    (D29 : PySem.W.codeIn K cd29 "law" = true)
    (K29 : PySem.W.keepIn K (.ref f29) = true)
    (aC_Grid : PySem.W.nsIn K mainGlobals "Grid" = some (some (.ref C_Grid)))
    (pg_Grid : PySem.W.plainGet K C_Grid Str.empty = true)
    (hd_Grid : PySem.W.hasDictIn K C_Grid = true)
    (po_Grid : PySem.W.plainOver K C_Grid = true)
    (sa_Grid : PySem.W.findIn K (.ref C_Grid) "__setattr__" = some (some (.builtin "object.__setattr__")))
    (mk_Grid : PySem.W.makesIn K C_Grid = true)
    (kc_Grid : PySem.W.keepIn K (.ref C_Grid) = true)
    (nrows_Grid : PySem.W.findIn K (.ref C_Grid) "rows" = some none)
    (nwidth_Grid : PySem.W.findIn K (.ref C_Grid) "width" = some none)
    (sf_Grid : PySem.W.selfFirst K C_Grid = true)
    (yc_Grid : PySem.W.findIn K (.ref C_Grid) "__class__" = some (some (.builtin "object.__class__")))
    (yg_Grid : PySem.W.specialIn K (.builtin "object.__class__") "__get__" = some (some (.builtin "getset_descriptor.__get__")))
    (yt_Grid : PySem.W.takesIn K (.builtin "object.__class__") = some true)
    (ym_Grid : PySem.W.mroIn K C_Grid (.type "object") = some true)
    (yt2_Grid : PySem.W.typeIn K (.ref C_Grid) = some (.type "type"))
    (yi_Grid : PySem.W.isClsIn K C_Grid = true)
    (yn_Grid : PySem.W.findIn K (.ref C_Grid) "__ne__" = some (some (.builtin "object.__ne__")))
    (z_ValueError : PySem.W.nsIn K mainGlobals "ValueError" = some none)
    (z_abs : PySem.W.nsIn K mainGlobals "abs" = some none)
    (z_all : PySem.W.nsIn K mainGlobals "all" = some none)
    (z_bool : PySem.W.nsIn K mainGlobals "bool" = some none)
    (z_enumerate : PySem.W.nsIn K mainGlobals "enumerate" = some none)
    (z_int : PySem.W.nsIn K mainGlobals "int" = some none)
    (z_isinstance : PySem.W.nsIn K mainGlobals "isinstance" = some none)
    (z_len : PySem.W.nsIn K mainGlobals "len" = some none)
    (z_list : PySem.W.nsIn K mainGlobals "list" = some none)
    (z_range : PySem.W.nsIn K mainGlobals "range" = some none)
    (z_tuple : PySem.W.nsIn K mainGlobals "tuple" = some none)
    (z_zip : PySem.W.nsIn K mainGlobals "zip" = some none)
    (aX_Malformed : PySem.W.nsIn K mainGlobals "Malformed" = some (some (.ref X_Malformed)))
    (xX_Malformed : PySem.W.excIn K X_Malformed [.type "ValueError", .type "Exception", .type "BaseException", .type "object"] "ValueError.__new__" = true)
    (kX_Malformed : PySem.W.keepIn K (.ref X_Malformed) = true)
    (bX_Malformed : PySem.W.subIn K (.ref X_Malformed) (.type "BaseException") = some true)
    (tX_Malformed : PySem.W.typeIn K (.ref X_Malformed) = some (.type "type"))
    (iX_Malformed : PySem.W.isClsIn K X_Malformed = true)
    (sX_Malformed : PySem.W.subIn K (.ref X_Malformed) (.ref X_Malformed) = some true)
    (aX_Refused : PySem.W.nsIn K mainGlobals "Refused" = some (some (.ref X_Refused)))
    (kX_Refused : PySem.W.keepIn K (.ref X_Refused) = true)
    (bX_Refused : PySem.W.subIn K (.ref X_Refused) (.type "BaseException") = some true)
    (tX_Refused : PySem.W.typeIn K (.ref X_Refused) = some (.type "type"))
    (iX_Refused : PySem.W.isClsIn K X_Refused = true)
    (sX_Refused : PySem.W.subIn K (.ref X_Refused) (.ref X_Refused) = some true)
    (lX_Refused : K.lookup X_Refused = some (excClassObj nm_Refused q_Refused X_Refused N_Refused bs_Refused bm_Refused true sn_Refused sub_Refused ab_Refused col_Refused dd_Refused k0_Refused k1_Refused k2_Refused k3_Refused k5_Refused "ValueError.__new__"))
    (rX_Refused : PySem.HandSPX.refsVE bm_Refused = true)
    (saX_Refused : PySem.W.findIn K (.ref X_Refused) "__setattr__" = some (some (.builtin "object.__setattr__")))
    (jI_Refused : PySem.W.typeIn K (.ref f1) = some (.type "function"))
    (nf_Refused : PySem.W.findIn K (.ref X_Refused) "reason" = some none)
    (gaX_Refused : PySem.W.findIn K (.ref X_Refused) "__getattribute__" = some (some (.builtin "BaseException.__getattribute__")))
    (ggX_Refused : PySem.W.findIn K (.ref X_Refused) "__getattr__" = some none)
    (hdX_Refused : PySem.W.hasDictIn K X_Refused = true)
    (mX_Refused : PySem.W.mroIn K X_Refused (.type "object") = some true)
    (hX_Refused : PySem.W.findIn K (.ref X_Refused) "__class__" = some (some (.builtin "object.__class__")))
    (sub_Refused_Malformed : PySem.W.subIn K (.ref X_Refused) (.ref X_Malformed) = some false)
    (sub_Malformed_Refused : PySem.W.subIn K (.ref X_Malformed) (.ref X_Refused) = some false)
    : ∃ fd : FuncData, (∀ (s : Shared) (v : Value), BindsTo s fd ⟨[v], []⟩ [("script", v)]) ∧ ∀ base : Heap, K.In base → base.Ns mainGlobals mg → base.NoSeer → FnOk l.prog w K mg base CX0 49 fa fd ["script"] (sp_law K) := by
  have e := hfa.symm.trans (PySem.W.mg_of X G A29)
  cases e
  have F1 := fun_mk (st := s_Refused_init) L1 D1 K1
  have b1 := F1.binds (ps := ["self", "reason"]) fun _ _ _ _ _ _ us hl => match us, hl with | [_, _], _ => rfl
  have F2 := fun_mk (st := s_is_integer) L2 D2 K2
  have b2 := F2.binds (ps := ["value"]) fun _ _ _ _ _ _ us hl => match us, hl with | [_], _ => rfl
  have F3 := fun_mk (st := s_determinant_of) L3 D3 K3
  have b3 := F3.binds (ps := ["rows"]) fun _ _ _ _ _ _ us hl => match us, hl with | [_], _ => rfl
  have F4 := fun_mk (st := s_first_with_head) L4 D4 K4
  have b4 := F4.binds (ps := ["rows"]) fun _ _ _ _ _ _ us hl => match us, hl with | [_], _ => rfl
  have F5 := fun_mk (st := s_cleared) L5 D5 K5
  have b5 := F5.binds (ps := ["top", "row", "last"]) fun _ _ _ _ _ _ us hl => match us, hl with | [_, _, _], _ => rfl
  have F6 := fun_mk (st := s_minor) L6 D6 K6
  have b6 := F6.binds (ps := ["rows", "i", "j"]) fun _ _ _ _ _ _ us hl => match us, hl with | [_, _, _], _ => rfl
  have F7 := fun_mk (st := s_adjugate_of) L7 D7 K7
  have b7 := F7.binds (ps := ["rows"]) fun _ _ _ _ _ _ us hl => match us, hl with | [_], _ => rfl
  have F8 := fun_mk (st := s_signed_minor) L8 D8 K8
  have b8 := F8.binds (ps := ["rows", "i", "j"]) fun _ _ _ _ _ _ us hl => match us, hl with | [_, _, _], _ => rfl
  have F9 : FunD K "__init__" "Grid.__init__" (defArgs s_Grid_init) (defBody s_Grid_init) (defScope s_Grid_init) [.non] [] f9 _ := ⟨⟨oc9, od9, _, kV9, dc9, pm9, an9, cd9, ct9, sl9, rfl, L9, D9, .inr ⟨by simp, t9, _, [.none], tn9, rfl, T9, rfl, .cons rfl .nil⟩, .inl rfl⟩, K9⟩
  obtain ⟨ds9, vd9, b9⟩ := F9.binds1 (ps := ["self", "rows", "width"]) 3 1 (by simp) rfl fun _ _ _ _ _ _ _ us its hl hi => match us, hl, its, hi with | [_, _, _], _, [_], _ => ⟨_, rfl, rfl⟩
  obtain rfl : ds9 = [] := by cases vd9; rfl
  have F10 := fun_mk (st := s_Grid_eq) L10 D10 K10
  have b10 := F10.binds (ps := ["self", "other"]) fun _ _ _ _ _ _ us hl => match us, hl with | [_, _], _ => rfl
  have F11 := fun_mk (st := s_Grid_len) L11 D11 K11
  have b11 := F11.binds (ps := ["self"]) fun _ _ _ _ _ _ us hl => match us, hl with | [_], _ => rfl
  have F12 := fun_mk (st := s_Grid_scaled) L12 D12 K12
  have b12 := F12.binds (ps := ["self", "k"]) fun _ _ _ _ _ _ us hl => match us, hl with | [_, _], _ => rfl
  have F13 := fun_mk (st := s_Grid_is_square) L13 D13 K13
  have b13 := F13.binds (ps := ["self"]) fun _ _ _ _ _ _ us hl => match us, hl with | [_], _ => rfl
  have F14 := fun_mk (st := s_Grid_determinant) L14 D14 K14
  have b14 := F14.binds (ps := ["self"]) fun _ _ _ _ _ _ us hl => match us, hl with | [_], _ => rfl
  have F15 := fun_mk (st := s_Grid_adjugate) L15 D15 K15
  have b15 := F15.binds (ps := ["self"]) fun _ _ _ _ _ _ us hl => match us, hl with | [_], _ => rfl
  have F16 := fun_mk (st := s_Grid_is_unimodular) L16 D16 K16
  have b16 := F16.binds (ps := ["self"]) fun _ _ _ _ _ _ us hl => match us, hl with | [_], _ => rfl
  have F17 := fun_mk (st := s_Grid_inverse) L17 D17 K17
  have b17 := F17.binds (ps := ["self"]) fun _ _ _ _ _ _ us hl => match us, hl with | [_], _ => rfl
  have F18 := fun_mk (st := s_checked_rows) L18 D18 K18
  have b18 := F18.binds (ps := ["rows"]) fun _ _ _ _ _ _ us hl => match us, hl with | [_], _ => rfl
  have F19 := fun_mk (st := s_checked_width) L19 D19 K19
  have b19 := F19.binds (ps := ["rows", "width"]) fun _ _ _ _ _ _ us hl => match us, hl with | [_, _], _ => rfl
  have F20 := fun_mk (st := s_check_square) L20 D20 K20
  have b20 := F20.binds (ps := ["a"]) fun _ _ _ _ _ _ us hl => match us, hl with | [_], _ => rfl
  have F21 := fun_mk (st := s_law_state) L21 D21 K21
  have b21 := F21.binds (ps := ["script"]) fun _ _ _ _ _ _ us hl => match us, hl with | [_], _ => rfl
  have F22 := fun_mk (st := s_law_take) L22 D22 K22
  have b22 := F22.binds (ps := ["state", "m"]) fun _ _ _ _ _ _ us hl => match us, hl with | [_, _], _ => rfl
  have F23 := fun_mk (st := s_law_product) L23 D23 K23
  have b23 := F23.binds (ps := ["a", "b", "width"]) fun _ _ _ _ _ _ us hl => match us, hl with | [_, _, _], _ => rfl
  have F24 := fun_mk (st := s_law_unit) L24 D24 K24
  have b24 := F24.binds (ps := ["n"]) fun _ _ _ _ _ _ us hl => match us, hl with | [_], _ => rfl
  have F25 := fun_mk (st := s_law_step) L25 D25 K25
  have b25 := F25.binds (ps := ["rows", "i", "k", "factor"]) fun _ _ _ _ _ _ us hl => match us, hl with | [_, _, _, _], _ => rfl
  have F26 := fun_mk (st := s_law_unimodular) L26 D26 K26
  have b26 := F26.binds (ps := ["state", "n"]) fun _ _ _ _ _ _ us hl => match us, hl with | [_, _], _ => rfl
  have F27 := fun_mk (st := s_law_is_rows) L27 D27 K27
  have b27 := F27.binds (ps := ["value", "height", "width"]) fun _ _ _ _ _ _ us hl => match us, hl with | [_, _, _], _ => rfl
  have F28 := fun_mk (st := s_law_refused) L28 D28 K28
  have b28 := F28.binds (ps := ["grid"]) fun _ _ _ _ _ _ us hl => match us, hl with | [_], _ => rfl
  have F29 := fun_mk (st := s_law) L29 D29 K29
  have b29 := F29.binds (ps := ["script"]) fun _ _ _ _ _ _ us hl => match us, hl with | [_], _ => rfl
  let T : Top K mg := { a_Refused_init := f1, d_Refused_init := _, F_Refused_init := F1, b_Refused_init := b1, a_is_integer := f2, d_is_integer := _, F_is_integer := F2, b_is_integer := b2, g_is_integer := PySem.W.mg_of X G A2, a_determinant_of := f3, d_determinant_of := _, F_determinant_of := F3, b_determinant_of := b3, g_determinant_of := PySem.W.mg_of X G A3, a_first_with_head := f4, d_first_with_head := _, F_first_with_head := F4, b_first_with_head := b4, g_first_with_head := PySem.W.mg_of X G A4, a_cleared := f5, d_cleared := _, F_cleared := F5, b_cleared := b5, g_cleared := PySem.W.mg_of X G A5, a_minor := f6, d_minor := _, F_minor := F6, b_minor := b6, g_minor := PySem.W.mg_of X G A6, a_adjugate_of := f7, d_adjugate_of := _, F_adjugate_of := F7, b_adjugate_of := b7, g_adjugate_of := PySem.W.mg_of X G A7, a_signed_minor := f8, d_signed_minor := _, F_signed_minor := F8, b_signed_minor := b8, g_signed_minor := PySem.W.mg_of X G A8, a_Grid_init := f9, d_Grid_init := _, F_Grid_init := F9, b_Grid_init := b9, a_Grid_eq := f10, d_Grid_eq := _, F_Grid_eq := F10, b_Grid_eq := b10, m_Grid_eq := ⟨A10, I10, K10⟩, a_Grid_len := f11, d_Grid_len := _, F_Grid_len := F11, b_Grid_len := b11, m_Grid_len := ⟨A11, I11, K11⟩, a_Grid_scaled := f12, d_Grid_scaled := _, F_Grid_scaled := F12, b_Grid_scaled := b12, m_Grid_scaled := ⟨A12, I12, K12⟩, a_Grid_is_square := f13, d_Grid_is_square := _, F_Grid_is_square := F13, b_Grid_is_square := b13, m_Grid_is_square := ⟨A13, I13, K13⟩, a_Grid_determinant := f14, d_Grid_determinant := _, F_Grid_determinant := F14, b_Grid_determinant := b14, m_Grid_determinant := ⟨A14, I14, K14⟩, a_Grid_adjugate := f15, d_Grid_adjugate := _, F_Grid_adjugate := F15, b_Grid_adjugate := b15, m_Grid_adjugate := ⟨A15, I15, K15⟩, a_Grid_is_unimodular := f16, d_Grid_is_unimodular := _, F_Grid_is_unimodular := F16, b_Grid_is_unimodular := b16, m_Grid_is_unimodular := ⟨A16, I16, K16⟩, a_Grid_inverse := f17, d_Grid_inverse := _, F_Grid_inverse := F17, b_Grid_inverse := b17, m_Grid_inverse := ⟨A17, I17, K17⟩, a_checked_rows := f18, d_checked_rows := _, F_checked_rows := F18, b_checked_rows := b18, g_checked_rows := PySem.W.mg_of X G A18, a_checked_width := f19, d_checked_width := _, F_checked_width := F19, b_checked_width := b19, g_checked_width := PySem.W.mg_of X G A19, a_check_square := f20, d_check_square := _, F_check_square := F20, b_check_square := b20, g_check_square := PySem.W.mg_of X G A20, a_law_state := f21, d_law_state := _, F_law_state := F21, b_law_state := b21, g_law_state := PySem.W.mg_of X G A21, a_law_take := f22, d_law_take := _, F_law_take := F22, b_law_take := b22, g_law_take := PySem.W.mg_of X G A22, a_law_product := f23, d_law_product := _, F_law_product := F23, b_law_product := b23, g_law_product := PySem.W.mg_of X G A23, a_law_unit := f24, d_law_unit := _, F_law_unit := F24, b_law_unit := b24, g_law_unit := PySem.W.mg_of X G A24, a_law_step := f25, d_law_step := _, F_law_step := F25, b_law_step := b25, g_law_step := PySem.W.mg_of X G A25, a_law_unimodular := f26, d_law_unimodular := _, F_law_unimodular := F26, b_law_unimodular := b26, g_law_unimodular := PySem.W.mg_of X G A26, a_law_is_rows := f27, d_law_is_rows := _, F_law_is_rows := F27, b_law_is_rows := b27, g_law_is_rows := PySem.W.mg_of X G A27, a_law_refused := f28, d_law_refused := _, F_law_refused := F28, b_law_refused := b28, g_law_refused := PySem.W.mg_of X G A28, a_law := fa, d_law := _, F_law := F29, b_law := b29, g_law := PySem.W.mg_of X G A29, C_Grid := C_Grid, g_Grid := PySem.W.mg_of X G aC_Grid, cl_Grid := ⟨pg_Grid, hd_Grid, po_Grid, sa_Grid⟩, mk_Grid := ⟨mk_Grid, A9, I9, kc_Grid⟩, n_rows := nrows_Grid, n_width := nwidth_Grid, sf_Grid := sf_Grid, kc_Grid := yc_Grid, kg_Grid := yg_Grid, kt_Grid := yt_Grid, km_Grid := ym_Grid, ty_Grid := yt2_Grid, ic_Grid := yi_Grid, ne_Grid := yn_Grid, z_ValueError := PySem.W.mg_none_of X G z_ValueError, z_abs := PySem.W.mg_none_of X G z_abs, z_all := PySem.W.mg_none_of X G z_all, z_bool := PySem.W.mg_none_of X G z_bool, z_enumerate := PySem.W.mg_none_of X G z_enumerate, z_int := PySem.W.mg_none_of X G z_int, z_isinstance := PySem.W.mg_none_of X G z_isinstance, z_len := PySem.W.mg_none_of X G z_len, z_list := PySem.W.mg_none_of X G z_list, z_range := PySem.W.mg_none_of X G z_range, z_tuple := PySem.W.mg_none_of X G z_tuple, z_zip := PySem.W.mg_none_of X G z_zip, X_Malformed := X_Malformed, gX_Malformed := PySem.W.mg_of X G aX_Malformed, xX_Malformed := xX_Malformed, kX_Malformed := kX_Malformed, bX_Malformed := bX_Malformed, tX_Malformed := tX_Malformed, iX_Malformed := iX_Malformed, sX_Malformed := sX_Malformed, X_Refused := X_Refused, gX_Refused := PySem.W.mg_of X G aX_Refused, kX_Refused := kX_Refused, bX_Refused := bX_Refused, tX_Refused := tX_Refused, iX_Refused := iX_Refused, sX_Refused := sX_Refused, oX_Refused := ⟨⟨_, _, _, _, _, _, _, _, _, _, _, _, _, _, _, lX_Refused, rX_Refused⟩, saX_Refused, bX_Refused, tX_Refused, kX_Refused⟩, nI_Refused := A1, jI_Refused := jI_Refused, nf_Refused := nf_Refused, fX_Refused := ⟨gaX_Refused, ggX_Refused, bX_Refused, hdX_Refused⟩, cX_Refused := iX_Refused, mX_Refused := mX_Refused, hX_Refused := hX_Refused, sub_Refused_Malformed := sub_Refused_Malformed, sub_Malformed_Refused := sub_Malformed_Refused }
  exact ⟨PySem.W.fnOf "law" "law" (defArgs s_law) (defBody s_law) (defScope s_law) .none kV29 dc29 pm29 an29 cd29 ct29, fun s v => .of_eq rfl, fun base _ _ hN => ok_law (w := w) T hN hT⟩
end K03
open PySem PySem.W PyProof.Rows
set_option maxRecDepth 100000 in
set_option maxHeartbeats 16000000 in
theorem PySem.Challenge.cw_gridmetric_k03_unimodular_matrices_holds : PySem.Challenge.rw_gridmetric_k03_unimodular_matrices.Holds := by
  w_on; o_law; k_head; (case hw => w_witness2)
  k_fill
  refine Gm.walk_ofN (n := 63) (k := 49) (sp := K03.sp_law) (x := "script") rfl (by decide) rfl ⟨rfl, by decide, by decide⟩ (by decide +kernel) (fun w h Y => PySem.W.kIn_of Y) ?F ?S
  case F =>
    intro w mg fa h Y KX G hmg
    refine' K03.all_mk KX G hmg rfl ?A1 ?I1 ?L1 ?D1 ?K1 ?A2 ?L2 ?D2 ?K2 ?A3 ?L3 ?D3 ?K3 ?A4 ?L4 ?D4 ?K4 ?A5 ?L5 ?D5 ?K5 ?A6 ?L6 ?D6 ?K6 ?A7 ?L7 ?D7 ?K7 ?A8 ?L8 ?D8 ?K8 ?A9 ?I9 ?L9 ?T9 ?D9 ?K9 ?A10 ?I10 ?L10 ?D10 ?K10 ?A11 ?I11 ?L11 ?D11 ?K11 ?A12 ?I12 ?L12 ?D12 ?K12 ?A13 ?I13 ?L13 ?D13 ?K13 ?A14 ?I14 ?L14 ?D14 ?K14 ?A15 ?I15 ?L15 ?D15 ?K15 ?A16 ?I16 ?L16 ?D16 ?K16 ?A17 ?I17 ?L17 ?D17 ?K17 ?A18 ?L18 ?D18 ?K18 ?A19 ?L19 ?D19 ?K19 ?A20 ?L20 ?D20 ?K20 ?A21 ?L21 ?D21 ?K21 ?A22 ?L22 ?D22 ?K22 ?A23 ?L23 ?D23 ?K23 ?A24 ?L24 ?D24 ?K24 ?A25 ?L25 ?D25 ?K25 ?A26 ?L26 ?D26 ?K26 ?A27 ?L27 ?D27 ?K27 ?A28 ?L28 ?D28 ?K28 ?A29 ?L29 ?D29 ?K29 ?aC_Grid ?pg_Grid ?hd_Grid ?po_Grid ?sa_Grid ?mk_Grid ?kc_Grid ?nrows_Grid ?nwidth_Grid ?sf_Grid ?yc_Grid ?yg_Grid ?yt_Grid ?ym_Grid ?yt2_Grid ?yi_Grid ?yn_Grid ?z_ValueError ?z_abs ?z_all ?z_bool ?z_enumerate ?z_int ?z_isinstance ?z_len ?z_list ?z_range ?z_tuple ?z_zip ?aX_Malformed ?xX_Malformed ?kX_Malformed ?bX_Malformed ?tX_Malformed ?iX_Malformed ?sX_Malformed ?aX_Refused ?kX_Refused ?bX_Refused ?tX_Refused ?iX_Refused ?sX_Refused ?lX_Refused ?rX_Refused ?saX_Refused ?jI_Refused ?nf_Refused ?gaX_Refused ?ggX_Refused ?hdX_Refused ?mX_Refused ?hX_Refused ?sub_Refused_Malformed ?sub_Malformed_Refused
    (case aC_Grid => k_is)
    (case aX_Malformed => k_is)
    (case aX_Refused => k_is)
    (case A1 => k_is)
    (case I1 => k_is)
    (case L1 => k_is)
    (case D1 => k_is)
    (case K1 => k_is)
    (case A2 => k_is)
    (case L2 => k_is)
    (case D2 => k_is)
    (case K2 => k_is)
    (case A3 => k_is)
    (case L3 => k_is)
    (case D3 => k_is)
    (case K3 => k_is)
    (case A4 => k_is)
    (case L4 => k_is)
    (case D4 => k_is)
    (case K4 => k_is)
    (case A5 => k_is)
    (case L5 => k_is)
    (case D5 => k_is)
    (case K5 => k_is)
    (case A6 => k_is)
    (case L6 => k_is)
    (case D6 => k_is)
    (case K6 => k_is)
    (case A7 => k_is)
    (case L7 => k_is)
    (case D7 => k_is)
    (case K7 => k_is)
    (case A8 => k_is)
    (case L8 => k_is)
    (case D8 => k_is)
    (case K8 => k_is)
    (case A9 => k_is)
    (case I9 => k_is)
    (case L9 => k_is)
    (case T9 => k_is)
    (case D9 => k_is)
    (case K9 => k_is)
    (case A10 => k_is)
    (case I10 => k_is)
    (case L10 => k_is)
    (case D10 => k_is)
    (case K10 => k_is)
    (case A11 => k_is)
    (case I11 => k_is)
    (case L11 => k_is)
    (case D11 => k_is)
    (case K11 => k_is)
    (case A12 => k_is)
    (case I12 => k_is)
    (case L12 => k_is)
    (case D12 => k_is)
    (case K12 => k_is)
    (case A13 => k_is)
    (case I13 => k_is)
    (case L13 => k_is)
    (case D13 => k_is)
    (case K13 => k_is)
    (case A14 => k_is)
    (case I14 => k_is)
    (case L14 => k_is)
    (case D14 => k_is)
    (case K14 => k_is)
    (case A15 => k_is)
    (case I15 => k_is)
    (case L15 => k_is)
    (case D15 => k_is)
    (case K15 => k_is)
    (case A16 => k_is)
    (case I16 => k_is)
    (case L16 => k_is)
    (case D16 => k_is)
    (case K16 => k_is)
    (case A17 => k_is)
    (case I17 => k_is)
    (case L17 => k_is)
    (case D17 => k_is)
    (case K17 => k_is)
    (case A18 => k_is)
    (case L18 => k_is)
    (case D18 => k_is)
    (case K18 => k_is)
    (case A19 => k_is)
    (case L19 => k_is)
    (case D19 => k_is)
    (case K19 => k_is)
    (case A20 => k_is)
    (case L20 => k_is)
    (case D20 => k_is)
    (case K20 => k_is)
    (case A21 => k_is)
    (case L21 => k_is)
    (case D21 => k_is)
    (case K21 => k_is)
    (case A22 => k_is)
    (case L22 => k_is)
    (case D22 => k_is)
    (case K22 => k_is)
    (case A23 => k_is)
    (case L23 => k_is)
    (case D23 => k_is)
    (case K23 => k_is)
    (case A24 => k_is)
    (case L24 => k_is)
    (case D24 => k_is)
    (case K24 => k_is)
    (case A25 => k_is)
    (case L25 => k_is)
    (case D25 => k_is)
    (case K25 => k_is)
    (case A26 => k_is)
    (case L26 => k_is)
    (case D26 => k_is)
    (case K26 => k_is)
    (case A27 => k_is)
    (case L27 => k_is)
    (case D27 => k_is)
    (case K27 => k_is)
    (case A28 => k_is)
    (case L28 => k_is)
    (case D28 => k_is)
    (case K28 => k_is)
    (case A29 => k_is)
    (case L29 => k_is)
    (case D29 => k_is)
    (case K29 => k_is)
    (case pg_Grid => k_is)
    (case hd_Grid => k_is)
    (case po_Grid => k_is)
    (case sa_Grid => k_is)
    (case mk_Grid => k_is)
    (case kc_Grid => k_is)
    (case nrows_Grid => k_is)
    (case nwidth_Grid => k_is)
    (case sf_Grid => k_is)
    (case yc_Grid => k_is)
    (case yg_Grid => k_is)
    (case yt_Grid => k_is)
    (case ym_Grid => k_is)
    (case yt2_Grid => k_is)
    (case yi_Grid => k_is)
    (case yn_Grid => k_is)
    (case z_ValueError => k_is)
    (case z_abs => k_is)
    (case z_all => k_is)
    (case z_bool => k_is)
    (case z_enumerate => k_is)
    (case z_int => k_is)
    (case z_isinstance => k_is)
    (case z_len => k_is)
    (case z_list => k_is)
    (case z_range => k_is)
    (case z_tuple => k_is)
    (case z_zip => k_is)
    (case xX_Malformed => k_exc)
    (case kX_Malformed => k_is)
    (case bX_Malformed => k_is)
    (case tX_Malformed => k_is)
    (case iX_Malformed => k_is)
    (case sX_Malformed => first | rfl | k_is)
    (case kX_Refused => k_is)
    (case bX_Refused => k_is)
    (case tX_Refused => k_is)
    (case iX_Refused => k_is)
    (case sX_Refused => first | rfl | k_is)
    (case lX_Refused => k_is)
    (case rX_Refused => first | rfl | decide +kernel)
    (case saX_Refused => k_is)
    (case jI_Refused => k_is)
    (case nf_Refused => k_is)
    (case gaX_Refused => k_is)
    (case ggX_Refused => k_is)
    (case hdX_Refused => k_is)
    (case mX_Refused => k_is)
    (case hX_Refused => k_is)
    (case sub_Refused_Malformed => k_is)
    (case sub_Malformed_Refused => k_is)
  case S =>
    intro K H a ns hl hb hs
    exact ⟨a, ns, rfl, hs, hl, hb, fun _ => rfl⟩
