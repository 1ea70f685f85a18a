import PyProof.Rows.All
import Wide.All
import OpenK.AllK
import Wide.FinOn
import HandS.WordsExc
import HandS.ForMost
import HandS.Exc
import HandS.TryOnly
import HandS.ExcOwn
import HandS.IsInst
import HandS.Zip
import HandS.Walk
import HandS.Wide
import HandS.WideBits
import HandS.Conv
import HandS.Codes
import HandS.Defaults
import HandS.TupAny
import HandS.Style
import HandS.Gcd
import HandS.EndBits
import HandS.Sort
import HandS.Slots
import HandS.SlotsOwn
import KE.GoesMore
import KE.KOpsOwn
import HandS.HeadEnd
import HandS.More
import PyProof.InstNe
import HandS.TupMul
import KE.KItemsList
import KE.KDictZip
import HandS.IterVal
import KE.KOwnIter
import OpenK.KMeth
import HandS.Base
import HandS.Call
import HandS.ExcIs
import HandS.ExcField
import KE.KExcIs
import HandS.SortKw
import HandS.WordsDict
import KE.GoesZip
import HandS.ExcCtx
import HandS.SuiteRaise
import HandS.RaiseFrom
import HandS.ExcInit
import HandS.ExcInitHot
import KE.SortData
import HandS.SortInts
import HandS.OwnEq
import HandS.Small
import PySem.Challenge.RW_gridmetric_k44_sublattices_of_an_index
set_option Elab.async false
set_option linter.all false
set_option maxRecDepth 100000
set_option maxHeartbeats 40000000
/-! Further rules over the layer: // by any positive divisor; a range that is a value, walked; enumerate of a tuple; operators of an own class. -/
namespace Gm
open PySem PySem.Spec PyProof.Rows L2
section
variable {X : Cx}
/-! ### // by any positive divisor -/
theorem op_fdivP {env : Env} {l : List Env} (hN : X.base.NoSeer) (hst : X.stack = env :: l) (hgen : env.scope.isGenerator = false) (hco : env.scope.isCoroutine = false) (hb : env.builtins = builtinsNs) (hg : env.globals = mainGlobals)
    (ht : X.prog.given.tree = none) (hd : X.A.depth + 100 < recursionLimit) : OpR X (binaryOp .FloorDiv) (rI (fun _ j => 0 < j) fun i j => .int (i / j)) := by
  intro pn s σ H x y v u Q I rx ry h
  obtain ⟨i, j, rfl, rfl, hCond, q⟩ := h
  obtain ⟨t, rfl⟩ := rx
  obtain ⟨t', rfl⟩ := ry
  have h1 : (0 : Int) < j := hCond
  have hs : SeerAt (model X.prog X.w) X.A s.heap := PySem.SeerAt.of (hN.keeps I.bk) ht (I.ok.frames.trans (congrArg some hst)) hgen hco hb hg
  refine floordiv_int (by omega) ?_ (.inr (PySem.PylongRoom.of I.nolimit hd hs))
  rw [Int.fdiv_eq_ediv_of_nonneg i (by omega)]
  exact ⟨.int (i / j), H, I.tok _, ⟨_, rfl⟩, q⟩
theorem op_fdivQ {env : Env} {l : List Env} (hN : X.base.NoSeer) (hst : X.stack = env :: l) (hgen : env.scope.isGenerator = false) (hco : env.scope.isCoroutine = false) (hb : env.builtins = builtinsNs) (hg : env.globals = mainGlobals)
    (ht : X.prog.given.tree = none) (hd : X.A.depth + 100 < recursionLimit) : OpR X (binaryOp .FloorDiv) (rI (fun _ j => j ≠ 0) fun i j => .int (i.fdiv j)) := by
  intro pn s σ H x y v u Q I rx ry h
  obtain ⟨i, j, rfl, rfl, hCond, q⟩ := h
  obtain ⟨t, rfl⟩ := rx
  obtain ⟨t', rfl⟩ := ry
  have hs : SeerAt (model X.prog X.w) X.A s.heap := PySem.SeerAt.of (hN.keeps I.bk) ht (I.ok.frames.trans (congrArg some hst)) hgen hco hb hg
  refine floordiv_int hCond ?_ (.inr (PySem.PylongRoom.of I.nolimit hd hs))
  exact ⟨.int (i.fdiv j), H, I.tok _, ⟨_, rfl⟩, q⟩
theorem room100 {k : Nat} {A : Around} (hr : Room k A) (hk : 40 ≤ k) : A.depth + 100 < recursionLimit := by
  have := hr.dp
  omega
/-! ### a range as a value, and walked -/
theorem cr_range1 : CallR X (.type "range") (fun vs H Q => ∃ j, vs = [V.int j] ∧ ∀ p, H p = none → Q (.ref p) (upd H p (.rng 0 j))) := by
  intro pn s σ H vs argv Q I r h
  obtain ⟨j, rfl, q⟩ := h
  cases r with
  | cons r rr =>
    cases rr
    obtain ⟨t, rfl⟩ := r
    exact call_range_1 ⟨.ref s.heap.objs.size, upd H s.heap.objs.size (.rng 0 j), I.laid (t' := s.toks + 1 + 1) (fun b o e => Heap.get?_push_of_some _ e) (Nat.le_refl _) ⟨_, _, _, Heap.get?_push_size _ rfl⟩, rfl, q _ (I.hok.fresh (Nat.le_refl _))⟩
def iRv (te : TE) : TI := fun σ H R => te σ H fun v H1 => ∃ a lo hi, v = .ref a ∧ H1 a = some (.rng lo hi) ∧ (-(2 ^ 62) ≤ lo ∧ lo < 2 ^ 62 ∧ -(2 ^ 62) ≤ hi ∧ hi < 2 ^ 62) ∧ R (Itr lo (hi - lo).toNat) H1
theorem pi_rngv {tg e : Expr} {te : TE} (he : PE X e te) : PI X tg e (iRv te) := by
  refine ⟨fun pn s σ H R I h => ?_⟩
  refine thn (he.run pn s σ H _ I h) fun v s1 ⟨x, H1, J1, rel1, post1⟩ => ?_
  obtain ⟨a, lo, hi, ex, ha, ⟨post1, q2, q3, q4⟩, q⟩ := post1
  subst ex
  cases rel1
  obtain ⟨t, u, w, hr⟩ := J1.hok a _ ha
  refine wpAny_pyIter_range (show IsRange s1.heap a lo hi 1 t u w from hr) (small_one post1 q2 q3 q4) ?_
  refine ⟨s1.heap.objs.size, [s1.heap.objs.size], _, _, H1, rfl, J1.kept (t' := s1.toks) fun b o e => Heap.get?_push_of_some _ e, turn_range _ lo (hi - lo).toNat, ?_, fun b hb => ?_, q⟩
  · have eLo : lo + ((0 : Nat) : Int) * 1 = lo := by simp
    have eHi : (((hi - lo).toNat : Nat) : Int) - ((0 : Nat) : Int) = Builtin.Range.rangeSize lo hi 1 := by rw [rangeSize_one]; split <;> omega
    show IsRangeIter _ _ (lo + ((0 : Nat) : Int) * 1) ((((hi - lo).toNat : Nat) : Int) - ((0 : Nat) : Int)) 1
    rw [eLo, eHi]
    exact Heap.get?_push_size _ rfl
  · have e : b = s1.heap.objs.size := by simpa using hb
    subst e
    exact J1.fpOk (Nat.le_refl _) (J1.hok.fresh (Nat.le_refl _))
end
end Gm
namespace Gm
open PySem PySem.Spec PyProof.Rows L2
open AutoSeq1 (wpAny_loadPart')
/-! ### enumerate of a tuple -/
theorem meets_enumerate_newT (l : Addr) (items : Array Value) (n : Nat) (dc : Option Addr) (slo : Array (Option Value)) :
    Meets (Builtin.«enumerate.__new__» ⟨[.type "enumerate", .ref l], []⟩) (fun _ R s => s.heap.get? l = some { cls := .type "tuple", dict := dc, data := .seq items n, slots := slo } ∧
      R (.ok (.ret (.ref (s.heap.push { cls := .type "tuple_iterator", data := .fields #[.ref l, .int 0 0] }).objs.size)))
        { s with heap := (s.heap.push { cls := .type "tuple_iterator", data := .fields #[.ref l, .int 0 0] }).push { cls := .type "enumerate", data := .fields #[.none, .bool false, .ref s.heap.objs.size, rawInt 0, .none, .none] } }) :=
  .of_wp fun prog w A R s h => by
    obtain ⟨heap0, g, d, tk0, os0⟩ := s; obtain ⟨hGet, h⟩ := h
    have hsub := sub_enumerate
    have hL : Heap.IsTuple (Shared.heap ⟨heap0, g, d, tk0, os0⟩) l items := ⟨_, hGet, rfl, n, rfl⟩
    wp_walk using wpAny_loadPart' hGet
    refine wpAny_stack_any fun stt => wpAny_pure ?_
    split
    · rename_i c _ _ _ _ _
      cases (c == Value.type "enumerate")
      · wp_walk using wpAny_loadPart' hGet, wpAny_pyIter_tuple hL
        exact ⟨_, rfl, h⟩
      · wp_walk using wpAny_loadPart' hGet, wpAny_pyIter_tuple hL
        exact ⟨_, rfl, h⟩
    · wp_walk using wpAny_loadPart' hGet, wpAny_pyIter_tuple hL
      exact ⟨_, rfl, h⟩
section
variable {prog : Program} {w : World} {A : Around} {E : Value → Shared → Prop} {s : Shared}
theorem call_enumerate_tuple {l : Addr} {items : Array Value} {Q : Value → Shared → Prop} (hL : s.heap.IsTuple l items)
    (h : ∀ h', IsEnum h' (s.heap.objs.size + 1) s.heap.objs.size 0 .none → h'.IsTupleIter s.heap.objs.size l 0 → h'.objs.size = s.heap.objs.size + 2 →
      (∀ b o, s.heap.get? b = some o → h'.get? b = some o) → Q (.ref (s.heap.objs.size + 1)) { s with heap := h' }) :
    wpAny (model prog w) A (call (.type "enumerate") [.ref l]) Q E s := by
  obtain ⟨⟨c, dc, dd, slo⟩, hGet, hCls, n, hDat⟩ := hL
  replace hCls : c = .type "tuple" := hCls
  replace hDat : dd = .seq items n := hDat
  subst hCls hDat
  refine callType_new F.called_enumerate (by decide) (F.typeCall_enumerate_1 _) (F.newCall_enumerate_1 _) (fun obj => F.args_object_init_2 obj _) F.entry_enumerate_new
    (meets_enumerate_newT l items n dc slo) ⟨hGet, ?_⟩
  have hLen : (s.heap.push { cls := .type "tuple_iterator", data := .fields #[.ref l, .int 0 0] }).objs.size = s.heap.objs.size + 1 := Heap.size_push ..
  show _ ∧ _
  rw [hLen]
  have hEn : IsEnum ((s.heap.push { cls := .type "tuple_iterator", data := .fields #[.ref l, .int 0 0] }).push
      { cls := .type "enumerate", data := .fields #[.none, .bool false, .ref s.heap.objs.size, rawInt 0, .none, .none] }) (s.heap.objs.size + 1) s.heap.objs.size 0 .none := by
    have := Heap.get?_push_size (s.heap.push { cls := .type "tuple_iterator", data := .fields #[.ref l, .int 0 0] })
      (o := { cls := .type "enumerate", data := .fields #[.none, .bool false, .ref s.heap.objs.size, rawInt 0, .none, .none] }) rfl
    rw [hLen] at this; exact this
  refine ⟨⟨_, hEn, rfl⟩, h _ hEn ⟨_, Heap.get?_push_of_some _ (Heap.get?_push_size _ rfl), rfl, rfl⟩ (by rw [Heap.size_push, hLen]) fun b o x => Heap.get?_push_of_some _ (Heap.get?_push_of_some _ x)⟩
end
def IteT (K : PySem.W.Frag) (a : Addr) : It :=
  ⟨fun i H => ∃ (xv : List V) (x : V), SqT K H a xv ∧ xv[i]? = some x, fun i H v H' => ∃ T0 x, v = .ref T0 ∧ H T0 = none ∧ H' = upd H T0 (.tup [.int (i : Nat), x]) ∧ ∀ xv, SqT K H a xv → xv[i]? = some x, fun i H => ∃ xv : List V, SqT K H a xv ∧ xv.length ≤ i⟩
theorem turn_enumT {P : Program} {w : World} {K : PySem.W.Frag} {elts : List Expr} {kk : Nat} {tpos : Pos} (a e it : Addr) (hAi : a ≠ it) :
    Turn P w K (.Tuple elts kk tpos) (IteT K a) [e, it] e (fun i h => (∃ ol, IsEnum h e it ((i : Nat) : Int) ol) ∧ h.IsTupleIter it a i ∧ e ≠ it) where
  mem := by simp
  obj := fun i h stt b hBm => by
    obtain ⟨⟨ol, hEn⟩, ⟨o, ho, hCls, hDat⟩, _⟩ := stt
    have ee : b = e ∨ b = it := by simpa using hBm
    rcases ee with zq | zq
    · rw [zq]; exact ⟨_, hEn, fun v q => nomatch q⟩
    · rw [zq]; exact ⟨o, ho, fun v q => by rw [hDat] at q; cases q⟩
  keep := fun i h h' stt k => let ⟨⟨ol, hEn⟩, hIx, hDif⟩ := stt; ⟨⟨ol, k e (by simp) _ hEn⟩, hIx.at fun o q => k it (by simp) o q, hDif⟩
  item := by
    intro X hP hw hK hCls i pn s σ H E I hFp stt hGo
    subst hP hw hK
    obtain ⟨⟨ol, hEn⟩, hTi, hDif⟩ := stt
    obtain ⟨xv, x, hSq, hXi⟩ := hGo
    obtain ⟨vals, hvals, p, hLen⟩ := I.tuple hSq
    obtain ⟨u, hUi, rUi⟩ := hvals.get hXi
    have lEn : e < s.heap.objs.size := Heap.lt_size hEn
    have lTi : it < s.heap.objs.size := by obtain ⟨_, q, _⟩ := hTi; exact Heap.lt_size q
    have p' : s.heap.IsTuple a vals.toArray := p
    have hae : a ≠ e := by
      intro zq
      subst zq
      obtain ⟨o1, e1, c1, _⟩ := p'
      rw [hEn] at e1
      cases e1
      exact absurd (Value.type.inj c1) (by decide)
    have hLt : i < vals.toArray.size := by
      have := (List.getElem?_eq_some_iff.mp hUi).1
      simpa using this
    refine wpAny_pyNext_enum_itemD (Draws.tuple (prog := X.prog) (w := X.w) (A := X.A.in1) (I.ok.hd hCls) it a hAi vals.toArray) hEn ⟨hTi, p'⟩ hLt hDif (by simp [hDif, Ne.symm hae]) fun x' h' tk0 hP ho st' hTy hSz hKp => ?_
    obtain ⟨hit', p2⟩ := st'
    have hx' : x' = u := by
      have : vals[i]? = some x' := by simpa using hP
      rw [hUi] at this
      exact (Option.some.inj this).symm
    subst hx'
    refine ⟨_, rfl, wpAny_letOwnedTupleGo_enum (s := { s with heap := h', toks := tk0 + 1 }) ho fun h'' he' sBig => ?_⟩
    have hTy2 : h''.get? s.heap.objs.size = some { cls := .type "tuple", data := .seq #[.int i tk0, x'] } := (sBig.2 _ (Nat.ne_of_gt lEn)).trans hTy
    have nw : ObjOk X.prog X.w (upd H s.heap.objs.size (.tup [.int (i : Nat), x])) h'' s.heap.objs.size (.tup [.int (i : Nat), x]) :=
      ⟨by show 2 ≤ sizeLine; decide, [.int i tk0, x'], .cons ⟨_, rfl⟩ (.cons rUi .nil), ⟨_, hTy2, rfl, _, rfl⟩⟩
    have J1 : Inv X pn σ (upd H s.heap.objs.size (.tup [.int (i : Nat), x])) { s with heap := h'', toks := tk0 + 1 } :=
      I.turnedNew (ch := [e, it]) (fun b ob hBm q => (sBig.2 b (fun zq => hBm (by simp [zq]))).trans (hKp b ob (fun zq => hBm (by simp [zq])) (fun zq => hBm (by simp [zq])) q)) hFp (Nat.le_refl _) nw
    refine ⟨.ref s.heap.objs.size, _, J1, rfl, ⟨_, x, rfl, I.hok.fresh (Nat.le_refl _), rfl, fun yv hy => by rw [I.tuple_inj hy hSq]; exact hXi⟩, ⟨⟨x', ?_⟩, hit'.at fun o q => (sBig.2 it (Ne.symm hDif)).trans q, hDif⟩, fun b hBm => ?_⟩
    · have e1 : ((i + 1 : Nat) : Int) = (i : Int) + 1 := by omega
      rw [e1]; exact he'
    · have hBm2 : b < s.heap.objs.size := by
        have ee : b = e ∨ b = it := by simpa using hBm
        rcases ee with zq | zq
        · rw [zq]; exact lEn
        · rw [zq]; exact lTi
      rw [upd_ne (Nat.ne_of_lt hBm2)]
      exact (hFp b hBm).1
  done := by
    intro X hP hw hK hCls i pn s σ H E I hFp stt hGo
    subst hP hw hK
    obtain ⟨⟨ol, hEn⟩, hTi, hDif⟩ := stt
    obtain ⟨xv, hSq, hXi⟩ := hGo
    obtain ⟨vals, hvals, p, hLen⟩ := I.tuple hSq
    obtain ⟨f0, f1, f2, f3, f4, f5⟩ := hFp it (by simp)
    have hGet := hvals.length
    have p' : s.heap.IsTuple a vals.toArray := p
    have hTy : s.TypeIs (.ref e) "enumerate" := ⟨_, hEn, rfl⟩
    unfold pyNext
    refine wpAny_bind (wpAny_attempt (wpAny_callSpecial?_slot (name := Str.ofString "__next__") hTy F.slot_enumerate_next
      (wpAny_call_entry F.slot_enumerate_next hTy F.entry_enumerate_next ?_ (F.args_enumerate_next_1 _))))
    show wpAny _ _ (field (.ref e) 2 >>= _) _ _ _
    refine wpAny_bind (wpAny_field hEn rfl (x := .ref it) rfl ?_)
    refine wpAny_bind (wpAny_nextOf_tuple_end (I.ok.hd hCls) hTi p' (by simp; omega) fun h' x he' hx' => ?_)
    obtain ⟨o, ho, hc'⟩ := hx'
    refine wpAny_bind (wpAny_isInstance (T := "StopIteration") (b := true) ⟨o, ho, hc'⟩ isSubtype_stop ?_)
    exact wpAny_pure ⟨rfl, I.turned (t' := s.toks) (fun b o hBm q => he' b o hBm q) f0 f1 f3 f4 f5⟩
  self := fun A i s Q E stt h => let ⟨⟨_, hEn⟩, _⟩ := stt; wpAny_pyIter_enum hEn h
def iEnumA (K : PySem.W.Frag) (ta : TA) : TI := fun σ H R => ta σ H fun wsv HA => ∃ a xv, wsv = [.ref a] ∧ ((SqL K HA a xv ∧ R (Ite K a) HA) ∨ (SqT K HA a xv ∧ R (IteT K a) HA))
theorem pi_enumA {X : Cx} {e : Expr} {ta : TA} {p pos tpos : Pos} {elts : List Expr} {kk : Nat} (hGo : Gl X "enumerate") (hm : X.mg "enumerate" = none) (ha : PA X [e] ta) (hs : starEach [e] X.env = [(false, eval e X.env)] := by rfl) :
    PI X (.Tuple elts kk tpos) (.Call (.Name "enumerate" p) [e] [] pos) (iEnumA X.K ta) := by
  refine ⟨fun pn s σ H R I h => ?_⟩
  refine Call_ (ld_blt I hGo hm boot_enumerate (PyProof.Rows.callWith_type1 (thn (ha.run pos pn s σ H _ I h) fun argv sA ⟨wsv, HA, J1, rel1, post1⟩ => ?_) hs rfl))
  obtain ⟨a, xv, ex, hSq⟩ := post1
  subst ex
  cases rel1 with
  | cons r rr =>
    cases rr
    cases r
    have hFin : ∀ b ∈ [sA.heap.objs.size + 1, sA.heap.objs.size], sA.heap.objs.size ≤ b := fun b hBm => by
      have ee : b = sA.heap.objs.size + 1 ∨ b = sA.heap.objs.size := by simpa using hBm
      rcases ee with zq | zq
      · rw [zq]; exact Nat.le_add_right _ _
      · rw [zq]; exact Nat.le_refl _
    rcases hSq with ⟨hSq, q⟩ | ⟨hSq, q⟩
    · obtain ⟨vals, hvals, p', hLen⟩ := J1.list hSq
      refine call_enumerate_list p'.isList fun h' hEn hTi hSz hKp => wpAny_pyIter_enum hEn ?_
      have J2 : Inv X pn σ HA { sA with heap := h' } := J1.kept (t' := sA.toks) hKp
      exact ⟨sA.heap.objs.size + 1, [sA.heap.objs.size + 1, sA.heap.objs.size], _, _, HA, rfl, J2, turn_enum a (sA.heap.objs.size + 1) sA.heap.objs.size, ⟨⟨.none, hEn⟩, hTi, Nat.succ_ne_self _⟩, fun b hBm => J1.fpOk (hFin b hBm) (J1.hok.fresh (hFin b hBm)), q⟩
    · obtain ⟨vals, hvals, p', hLen⟩ := J1.tuple hSq
      have hAl : a ≠ sA.heap.objs.size := by
        obtain ⟨o, e, _⟩ := (show sA.heap.IsTuple a vals.toArray from p')
        exact Nat.ne_of_lt (Heap.lt_size e)
      refine call_enumerate_tuple (show sA.heap.IsTuple a vals.toArray from p') fun h' hEn hTi hSz hKp => wpAny_pyIter_enum hEn ?_
      have J2 : Inv X pn σ HA { sA with heap := h' } := J1.kept (t' := sA.toks) hKp
      exact ⟨sA.heap.objs.size + 1, [sA.heap.objs.size + 1, sA.heap.objs.size], _, _, HA, rfl, J2, turn_enumT a (sA.heap.objs.size + 1) sA.heap.objs.size hAl, ⟨⟨.none, hEn⟩, hTi, Nat.succ_ne_self _⟩, fun b hBm => J1.fpOk (hFin b hBm) (J1.hok.fresh (hFin b hBm)), q⟩
theorem walk_enumT {K : PySem.W.Frag} {a : Addr} {xv : List V} : Walk (IteT K a) xv.length (fun H => SqT K H a xv) (YPair (fun i => some (.int (i : Nat))) (fun i => xv[i]?)) := by
  refine ⟨fun i _ hIx q => ⟨xv, xv[i], q, by simp [hIx]⟩, fun _ q => ⟨xv, q, Nat.le_refl _⟩, fun i H v H' _ q y => ?_⟩
  obtain ⟨T0, x, h1, h2, h3, h4⟩ := y
  exact ⟨T0, .int (i : Nat), x, h1, h2, h3, rfl, h4 xv q⟩
theorem walk_zipT {K : PySem.W.Frag} {a b : Addr} {xv yv : List V} {n : Nat} (hn : n = min xv.length yv.length) : Walk (RZ.ItzT K a b) n (fun H => SqT K H a xv ∧ SqT K H b yv) (YPair (fun i => xv[i]?) (fun i => yv[i]?)) := by
  subst hn
  refine ⟨fun i _ hIx q => ?_, fun _ q => ⟨xv, yv, q.1, q.2, by omega⟩, fun i H v H' _ q y => ?_⟩
  · have h1 : i < xv.length := by omega
    have h2 : i < yv.length := by omega
    exact ⟨xv, yv, xv[i], yv[i], q.1, q.2, by simp [h1], by simp [h2]⟩
  · obtain ⟨T0, x, zq, h1, h2, h3, h4, h5⟩ := y
    exact ⟨T0, x, zq, h1, h2, h3, h4 xv q.1, h5 yv q.2⟩
end Gm
namespace Gm
open PySem PySem.Spec PyProof.Rows L2
section
variable {X : Cx} {C f : Addr} {fd : FuncData} {ps : List Str} {CX : CXT} {k : Nat} {sp : Sp} {E : XK}
/-- an instance as the library's words want it -/
theorem inst_of {pn : List (Addr × Obj)} {σ : L2.St} {H : Hp} {s : Shared} {a dx : Addr} {fs : List (Str × V)} (I : Inv X pn σ H s) (ha : H a = some (.ins C dx fs)) : ∃ od, PySem.W.InstAt s.heap a (PySem.W.instObj C dx) C (some od) := by
  obtain ⟨mAt, J, _⟩ := ins_get I.hok ha
  obtain ⟨od, J, _⟩ := J.look
  exact ⟨od, J⟩
/-- a op b, both instances of one own class that defines op -/
def rOwnBin (C : Addr) (sp : Sp) (E : XK) : R2 := fun x y H Q => ∃ a b dx dy fs gs, x = .ref a ∧ y = .ref b ∧ H a = some (.ins C dx fs) ∧ H b = some (.ins C dy gs) ∧ sp [x, y] H Q E
theorem op_ownBin {op : Operator} (hc : PySem.W.selfFirst X.K C = true) (hs : PySem.W.findIn X.K (.ref C) (PySem.dunder op.info.2) = some (some (.ref f))) (hf : PySem.W.isFn X.K (.ref f) = true)
    (F : FnOk X.prog X.w X.K X.mg X.base CX k f fd ps sp) (hr : Room k X.A) (hb : Binds X.K fd ps []) (hx : Passes CX X E) : OpR X (binaryOp op) (rOwnBin C sp E) := by
  intro pn s σ H x y v u Q I rx ry h
  obtain ⟨a, b, dx, dy, fs, gs, rfl, rfl, ha, hb', q⟩ := h
  cases rx
  cases ry
  obtain ⟨od, J⟩ := inst_of I ha
  obtain ⟨od', J'⟩ := inst_of I hb'
  obtain ⟨m, hF⟩ := I.fr
  refine PySem.W.binop_K hF I.ok.mod.kin J J'.type hc hs hf ?_
  refine wpAny_mono (run_fn (us := [.ref a, .ref b]) (vs := [.ref a, .ref b]) F hr hb .nil hx I (.cons rfl (.cons rfl .nil)) q) (fun w s' z => ?_) fun _ _ x => x
  obtain ⟨zR, HR, IR, relZ, postZ⟩ := z
  exact SlX.cmpback relZ ⟨zR, HR, IR, relZ, postZ⟩
/-- a op b compared by an own def -/
def rOwnCmp (K : PySem.W.Frag) (C : Addr) (sp : Sp) (E : XK) : R2 := fun x y H Q => ∃ a b dx dy fs gs, x = .ref a ∧ y = .ref b ∧ H a = some (.ins C dx fs) ∧ H b = some (.ins C dy gs) ∧ sp [x, y] H Q E
theorem op_ownCmp {op : CmpOp} (hop : ∀ a b, compareOp op a b = richCompare op a b) (hs : PySem.W.findIn X.K (.ref C) (cmpInfo op).2.1 = some (some (.ref f))) (hf : PySem.W.isFn X.K (.ref f) = true)
    (F : FnOk X.prog X.w X.K X.mg X.base CX k f fd ps sp) (hr : Room k X.A) (hb : Binds X.K fd ps []) (hx : Passes CX X E) : OpR X (compareOp op) (rOwnCmp X.K C sp E) := by
  intro pn s σ H x y v u Q I rx ry h
  obtain ⟨a, b, dx, dy, fs, gs, rfl, rfl, ha, hb', q⟩ := h
  cases rx
  cases ry
  obtain ⟨od, J⟩ := inst_of I ha
  obtain ⟨od', J'⟩ := inst_of I hb'
  obtain ⟨m, hF⟩ := I.fr
  rw [hop]
  refine PySem.W.cmp_K (op := op) (tb := .ref C) hr.units0 hF I.ok.mod.kin J J'.type (by simp [PySem.W.notFirst]) hs hf ?_
  refine wpAny_mono (run_fn (us := [.ref a, .ref b]) (vs := [.ref a, .ref b]) F hr hb .nil hx I (.cons rfl (.cons rfl .nil)) q) (fun w s' z => ?_) fun _ _ x => x
  obtain ⟨zR, HR, IR, relZ, postZ⟩ := z
  exact SlX.cmpback relZ ⟨zR, HR, IR, relZ, postZ⟩
/-- -a of an own class -/
def rOwnUn (C : Addr) (sp : Sp) (E : XK) : V → Hp → VK → Prop := fun x H Q => ∃ a dx fs, x = .ref a ∧ H a = some (.ins C dx fs) ∧ sp [x] H Q E
theorem un_ownNeg (hs : PySem.W.findIn X.K (.ref C) "__neg__" = some (some (.ref f))) (hf : PySem.W.isFn X.K (.ref f) = true)
    (F : FnOk X.prog X.w X.K X.mg X.base CX k f fd ps sp) (hr : Room k X.A) (hb : Binds X.K fd ps []) (hx : Passes CX X E) : UnR X (unaryOp .USub) (rOwnUn C sp E) := by
  intro pn s σ H x v Q I rx h
  obtain ⟨a, dx, fs, rfl, ha, q⟩ := h
  cases rx
  obtain ⟨od, J⟩ := inst_of I ha
  obtain ⟨m, hF⟩ := I.fr
  exact PySem.W.ksp_neg hF I.ok.mod.kin J hs hf (run_fn (us := [.ref a]) (vs := [.ref a]) F hr hb .nil hx I (.cons rfl .nil) q)
/-- len(a) of an own class -/
def rOwnLen (C : Addr) (sp : Sp) (E : XK) : List V → Hp → VK → Prop := fun xs H Q => ∃ a dx fs, xs = [.ref a] ∧ H a = some (.ins C dx fs) ∧ sp [.ref a] H (fun v HR => ∃ n : Nat, v = .int n ∧ n < 2 ^ 62 ∧ Q (.int n) HR) E
theorem call_ownLen (hs : PySem.W.findIn X.K (.ref C) "__len__" = some (some (.ref f))) (hf : PySem.W.isFn X.K (.ref f) = true)
    (F : FnOk X.prog X.w X.K X.mg X.base CX k f fd ps sp) (hr : Room (k + 1) X.A) (hb : Binds X.K fd ps []) (hx : ∀ (H : Hp) (s : Shared) (e : Value) (s' : Shared), CX X.stack H s E e s' → False) : CallR X (.builtin "len") (rOwnLen C sp E) := by
  intro pn s σ H vs argv Q I r h
  obtain ⟨a, dx, fs, rfl, ha, q⟩ := h
  cases r with
  | cons r rRest =>
    cases rRest
    cases r
    obtain ⟨od, J⟩ := inst_of I ha
    obtain ⟨m, hF⟩ := I.fr
    refine PySem.W.len_K hF I.ok.mod.kin J hs hf ?_
    have hl := F.len _ _ _ _ q
    have relV : Vals [V.ref a] [Value.ref a] := .cons rfl .nil
    refine wpAny_call (codeAny_mono (F.run X.A.in1 X.stack s H ⟨[.ref a], []⟩ [.ref a] [.ref a] _ E hr.in1 I.env0.in1 (by
      have := hb s [.ref a] I.kIn (by simpa using hl)
      simpa using this) relV q) fun r s' hq => ?_)
    cases r with
    | error e => exact (hx _ _ _ _ hq).elim
    | ok fl =>
      cases fl with
      | ret w =>
        obtain ⟨z, HR, IR, relZ, n, ez, hn, ex⟩ := I.after hq
        subst ez
        obtain ⟨t, rfl⟩ := relZ
        exact ⟨⟨by omega, by omega⟩, .int n, HR, IR.tok _, ⟨_, rfl⟩, ex⟩
      | next => exact False.elim hq
      | brk => exact False.elim hq
      | cont => exact False.elim hq
end
/-! ### a method that may raise, what is raised wished for at the caller's slots -/
section
variable {X : Cx} {C f : Addr} {fd : FuncData} {ps : List Str} {CX : CXT} {k : Nat} {sp : Sp} {E : L2.St → XK} {o e : Expr} {es : List Expr} {m : Str} {ta : TE} {t : TA} {pos apos : Pos}
def tMethS (C : Addr) (m : Str) (sp : Sp) (E : L2.St → XK) (ta : TE) (t : TA) : TE := fun σ H Q => ta σ H fun x H1 => ∃ a dx fs, x = .ref a ∧ H1 a = some (.ins C dx fs) ∧ fs.lookup m = none ∧ t σ H1 fun vs H2 => sp (x :: vs) H2 Q (E σ)
theorem pe_methS {pl : Sem Bool} (he : PE X o ta) (c : Cls X.K C) (hm : Meth X.K C m f) (F : FnOk X.prog X.w X.K X.mg X.base CX k f fd ps sp) (hr : Room k X.A) (hb : Binds X.K fd ps []) (hx : ∀ σ, PassesAt CX X σ (E σ)) (ha : PA X (e :: es) t)
    (hStar : starEach (e :: es) X.env = (false, eval e X.env) :: starEach es X.env := by rfl) (hPlain : (backTo pos (starEach es X.env)).any (·.1) = false := by rfl)
    (hEval : eval (.Call (.Attribute o m apos) (e :: es) [] pos) X.env = (do
      let ov ← eval o X.env
      standAt apos.atName
      let (f, first) ← holding [ov] (getMethod ov m pl)
      callWith pos f first (backTo pos (starEach (e :: es) X.env)) (backToKw pos (keywordEach [] X.env))) := by rfl) :
    PE X (.Call (.Attribute o m apos) (e :: es) [] pos) (tMethS C m sp E ta t) := by
  refine ⟨fun pn s σ H Q I h => ?_⟩
  refine PySem.W.methodCall_KW (pl := pl) (thn (he.run pn s σ H _ I h) fun u s1 ⟨x, H1, J1, rx, a, dx, fs, ex, ea, l, q⟩ => ?_) hEval
  subst ex
  obtain rfl : u = Value.ref a := rx
  refine getmeth_ok J1 ea c hm l ?_
  refine PySem.W.callWith_K (first := [.ref a]) (h₀ := X.base) I.ok.mod.kin hm.kp (thn (ha.run pos pn s1 σ H1 _ J1 q) fun argv s2 ⟨vs, H2, J2, r, q2⟩ => ⟨J2.kIn, ?_⟩) hStar hPlain
  exact run_fnS (us := .ref a :: argv) (vs := .ref a :: vs) F hr hb (hx σ) J2 (.cons rfl r) q2
theorem pe_methS0 {pl : Sem Bool} (he : PE X o ta) (c : Cls X.K C) (hm : Meth X.K C m f) (F : FnOk X.prog X.w X.K X.mg X.base CX k f fd ps sp) (hr : Room k X.A) (hb : Binds X.K fd ps []) (hx : ∀ σ, PassesAt CX X σ (E σ))
    (hEval : eval (.Call (.Attribute o m apos) [] [] pos) X.env = (do
      let ov ← eval o X.env
      standAt apos.atName
      let (f, first) ← holding [ov] (getMethod ov m pl)
      callWith pos f first (backTo pos (starEach [] X.env)) (backToKw pos (keywordEach [] X.env))) := by rfl) :
    PE X (.Call (.Attribute o m apos) [] [] pos) (tMethS C m sp E ta tNil) := by
  refine ⟨fun pn s σ H Q I h => ?_⟩
  refine PySem.W.methodCall_KW (pl := pl) (thn (he.run pn s σ H _ I h) fun u s1 ⟨x, H1, J1, rx, a, dx, fs, ex, ea, l, q⟩ => ?_) hEval
  subst ex
  obtain rfl : u = Value.ref a := rx
  refine getmeth_ok J1 ea c hm l ?_
  exact PySem.W.callWith_K0 (first := [.ref a]) J1.kIn hm.kp (run_fnS (us := [.ref a]) (vs := [.ref a]) F hr hb (hx σ) J1 (.cons rfl .nil) q)
end
end Gm
/-! Data in the heap: rows of ints, rows of rows, grids; comprehensions over a walk, their new list told at once. -/
namespace Gm
open PySem PySem.Spec PyProof.Rows L2
abbrev Frag := PySem.W.Frag
/-! ### heaps -/
theorem same_upd {H : Hp} {p : Addr} {o : HO} (h : H p = none) : Same H (upd H p o) := fun b x e => by
  rw [upd_ne (ne_of_none e h)]
  exact e
theorem Same.seqT {K : Frag} {H H' : Hp} {a : Addr} {xs : List V} (e : Same H H') (h : SqT K H a xs) : SqT K H' a xs := by
  rcases h with (h | ⟨o, h⟩) | h
  · exact .inl (.inl (e _ _ h))
  · exact .inl (.inr ⟨o, e _ _ h⟩)
  · exact .inr h
/-- all but D is as it was -/
def Off (D : Addr) (H H' : Hp) : Prop := ∀ b o, b ≠ D → H b = some o → H' b = some o
theorem Same.off {D : Addr} {H H' : Hp} (e : Same H H') : Off D H H' := fun b o _ h => e b o h
theorem Off.upd {D : Addr} {H : Hp} {o : HO} : Off D H (upd H D o) := fun b u n e => by rw [upd_ne n]; exact e
theorem Off.trans {D : Addr} {H H1 H2 : Hp} (a : Off D H H1) (b : Off D H1 H2) : Off D H H2 := fun c o n h => b c o n (a c o n h)
theorem Off.same {D : Addr} {H H1 H2 : Hp} (hD : H D = none) (a : Same H H1) (b : Off D H1 H2) : Same H H2 := fun c o h => b c o (ne_of_none h hD) (a c o h)
/-- a tuple stands through what happens at a list -/
theorem sqT_off {K : Frag} {H H' : Hp} {a D : Addr} {acc xs : List V} (hD : H D = some (.lst acc)) (e : Off D H H') (h : SqT K H a xs) : SqT K H' a xs := by
  rcases h with (h | ⟨o, h⟩) | h
  · exact .inl (.inl (e _ _ (ne_of h hD (by intro z; cases z)) h))
  · exact .inl (.inr ⟨o, e _ _ (ne_of h hD (by intro z; cases z)) h⟩)
  · exact .inr h
/-! ### a list or tuple -/
def Seq (K : Frag) (H : Hp) (a : Addr) (xs : List V) : Prop := SqL K H a xs ∨ SqT K H a xs
theorem Seq.same {K : Frag} {H H' : Hp} {a : Addr} {xs : List V} (e : Same H H') (h : Seq K H a xs) : Seq K H' a xs := h.elim (fun h => .inl (Same.seq e h)) fun h => .inr (Same.seqT e h)
/-! ### rows of ints, rows of rows -/
/-- a tuple of ints -/
def TRow (K : Frag) (H : Hp) (v : V) (ns : List Int) : Prop := ∃ a, v = .ref a ∧ SqT K H a (ns.map V.int)
/-- a list or tuple of ints -/
def IRow (K : Frag) (H : Hp) (v : V) (ns : List Int) : Prop := ∃ a, v = .ref a ∧ Seq K H a (ns.map V.int)
/-- a tuple of tuples of ints -/
def TRows (K : Frag) (H : Hp) (v : V) (m : List (List Int)) : Prop := ∃ a vs, v = .ref a ∧ SqT K H a vs ∧ Paired (TRow K H) vs m
/-- lists or tuples of such -/
def IRows (K : Frag) (H : Hp) (v : V) (m : List (List Int)) : Prop := ∃ a vs, v = .ref a ∧ Seq K H a vs ∧ Paired (IRow K H) vs m
section
variable {K : Frag} {H H' : Hp} {v : V} {ns : List Int} {m : List (List Int)} {D : Addr} {acc : List V}
theorem TRow.same (e : Same H H') (h : TRow K H v ns) : TRow K H' v ns := let ⟨a, x, s⟩ := h; ⟨a, x, Same.seqT e s⟩
theorem TRow.off (hD : H D = some (.lst acc)) (e : Off D H H') (h : TRow K H v ns) : TRow K H' v ns := let ⟨a, x, s⟩ := h; ⟨a, x, sqT_off hD e s⟩
theorem IRow.same (e : Same H H') (h : IRow K H v ns) : IRow K H' v ns := let ⟨a, x, s⟩ := h; ⟨a, x, s.same e⟩
theorem TRow.row (h : TRow K H v ns) : IRow K H v ns := let ⟨a, x, s⟩ := h; ⟨a, x, .inr s⟩
theorem TRows.same (e : Same H H') (h : TRows K H v m) : TRows K H' v m := let ⟨a, vs, x, s, p⟩ := h; ⟨a, vs, x, Same.seqT e s, L2.Paired.mapP p fun _ _ => TRow.same e⟩
theorem TRows.off (hD : H D = some (.lst acc)) (e : Off D H H') (h : TRows K H v m) : TRows K H' v m := let ⟨a, vs, x, s, p⟩ := h; ⟨a, vs, x, sqT_off hD e s, L2.Paired.mapP p fun _ _ => TRow.off hD e⟩
theorem IRows.same (e : Same H H') (h : IRows K H v m) : IRows K H' v m := let ⟨a, vs, x, s, p⟩ := h; ⟨a, vs, x, s.same e, L2.Paired.mapP p fun _ _ => IRow.same e⟩
theorem TRows.rows (h : TRows K H v m) : IRows K H v m := let ⟨a, vs, x, s, p⟩ := h; ⟨a, vs, x, .inr s, L2.Paired.mapP p fun _ _ => TRow.row⟩
end
theorem Paired.getL {α β : Type} {F : α → β → Prop} : ∀ {l₁ : List α} {l₂ : List β} {i : Nat} {b : β}, Paired F l₁ l₂ → l₂[i]? = some b → ∃ a, l₁[i]? = some a ∧ F a b
  | _, _, _, _, .nil, e => by simp at e
  | _, _, 0, _, .cons r _, e => by simp at e; subst e; exact ⟨_, rfl, r⟩
  | _, _, i + 1, b, .cons _ t, e => by
    obtain ⟨u, h1, h2⟩ := Paired.getL (i := i) (b := b) t (by simpa using e)
    exact ⟨u, by simpa using h1, h2⟩
theorem Paired.getR {α β : Type} {F : α → β → Prop} : ∀ {l₁ : List α} {l₂ : List β} {i : Nat} {a : α}, Paired F l₁ l₂ → l₁[i]? = some a → ∃ b, l₂[i]? = some b ∧ F a b
  | _, _, _, _, .nil, e => by simp at e
  | _, _, 0, _, .cons r _, e => by simp at e; subst e; exact ⟨_, rfl, r⟩
  | _, _, i + 1, a, .cons _ t, e => by
    obtain ⟨u, h1, h2⟩ := Paired.getR (i := i) (a := a) t (by simpa using e)
    exact ⟨u, by simpa using h1, h2⟩
theorem Paired.mapR {α β γ : Type} {F : α → β → Prop} {G : α → γ → Prop} (f : β → γ) (h : ∀ a b, F a b → G a (f b)) : ∀ {l₁ : List α} {l₂ : List β}, Paired F l₁ l₂ → Paired G l₁ (l₂.map f)
  | _, _, .nil => .nil
  | _, _, .cons r t => .cons (h _ _ r) (Paired.mapR f h t)
theorem Paired.swap {α β : Type} {F : α → β → Prop} : ∀ {l₁ : List α} {l₂ : List β}, Paired F l₁ l₂ → Paired (fun b a => F a b) l₂ l₁
  | _, _, .nil => .nil
  | _, _, .cons r t => .cons r (Paired.swap t)
/-- ints alone -/
theorem paired_ints : ∀ {vs : List V} {ns : List Int}, Paired (fun v n => v = V.int n) vs ns → vs = ns.map V.int
  | _, _, .nil => rfl
  | _, _, .cons r t => by rw [List.map_cons, ← r, ← paired_ints t]
theorem paired_bls : ∀ {vs : List V} {ns : List Bool}, Paired (fun v n => v = V.bl n) vs ns → vs = ns.map V.bl
  | _, _, .nil => rfl
  | _, _, .cons r t => by rw [List.map_cons, ← r, ← paired_bls t]
theorem ints_get {ns : List Int} {i : Nat} {v : V} (h : (ns.map V.int)[i]? = some v) : ∃ n, ns[i]? = some n ∧ v = .int n := by
  rw [List.getElem?_map] at h
  cases e : ns[i]? with
  | none => rw [e] at h; cases h
  | some n => rw [e] at h; exact ⟨n, rfl, (Option.some.inj h).symm⟩
theorem ints_at {ns : List Int} {i : Nat} {n : Int} (h : ns[i]? = some n) : (ns.map V.int)[i]? = some (.int n) := by
  rw [List.getElem?_map, h]
  rfl
/-! ### walks of a list or tuple: one reading for both -/
/-- R of every walk of the n items told by Y, while a's content stands -/
def Walked (n : Nat) (Y : Nat → Hp → V → Hp → Prop) (as : List Addr) (R : It → Hp → Prop) (H1 : Hp) : Prop := ∀ (J : It) (G : Hp → Prop), Walk J n G Y → (∀ H, (∀ a ∈ as, ∀ o, H1 a = some o → H a = some o) → G H) → R J H1
theorem sqL_at {K : Frag} {H H' : Hp} {a : Addr} {xs : List V} (h : SqL K H a xs) (e : ∀ o, H a = some o → H' a = some o) : SqL K H' a xs := by
  rcases h with (h | ⟨o, h⟩) | h
  · exact .inl (.inl (e _ h))
  · exact .inl (.inr ⟨o, e _ h⟩)
  · exact .inr h
theorem sqT_at {K : Frag} {H H' : Hp} {a : Addr} {xs : List V} (h : SqT K H a xs) (e : ∀ o, H a = some o → H' a = some o) : SqT K H' a xs := by
  rcases h with (h | ⟨o, h⟩) | h
  · exact .inl (.inl (e _ h))
  · exact .inl (.inr ⟨o, e _ h⟩)
  · exact .inr h
section
variable {X : Cx} {tg e e2 : Expr} {te : TE} {ta : TA} {p pos tpos : Pos} {elts : List Expr} {kk : Nat}
def iSeq (K : Frag) (tl : TE) : TI := fun σ H R => tl σ H fun x H1 => ∃ a xs, x = .ref a ∧ Seq K H1 a xs ∧ Walked xs.length (YAt xs) [a] R H1
theorem pi_seq (hl : PE X e te) : PI X tg e (iSeq X.K te) := by
  refine ⟨fun pn s σ H R I h => ?_⟩
  refine thn (hl.run pn s σ H _ I h) fun v s1 ⟨x, H1, J1, rel1, post1⟩ => ?_
  obtain ⟨a, xs, e, hq, q⟩ := post1
  subst e
  cases rel1
  have fin : ∀ b ∈ [s1.heap.objs.size], FpOk X pn H1 b := fun b hb => by
    have e : b = s1.heap.objs.size := by simpa using hb
    subst e
    exact J1.fpOk (Nat.le_refl _) (J1.hok.fresh (Nat.le_refl _))
  rcases hq with hq | hq
  · obtain ⟨vals, hvals, p, hLen⟩ := J1.list hq
    refine wpAny_pyIter_list p.isList ?_
    exact ⟨s1.heap.objs.size, [s1.heap.objs.size], _, _, H1, rfl, J1.kept (t' := s1.toks) fun b o e => Heap.get?_push_of_some _ e, turn_list a _, ⟨_, Heap.get?_push_size _ rfl, rfl, rfl⟩, fin, q _ _ walk_list fun H e => sqL_at hq (e a (by simp))⟩
  · obtain ⟨vals, hvals, p, hLen⟩ := J1.tuple hq
    refine wpAny_pyIter_tuple (show s1.heap.IsTuple a vals.toArray from p) ?_
    exact ⟨s1.heap.objs.size, [s1.heap.objs.size], _, _, H1, rfl, J1.kept (t' := s1.toks) fun b o e => Heap.get?_push_of_some _ e, turn_tuple a _, ⟨_, Heap.get?_push_size _ rfl, rfl, rfl⟩, fin, q _ _ walk_tup fun H e => sqT_at hq (e a (by simp))⟩
def iEnumS (K : Frag) (ta : TA) : TI := fun σ H R => ta σ H fun vs H1 => ∃ a xs, vs = [.ref a] ∧ Seq K H1 a xs ∧ Walked xs.length (YPair (fun i => some (.int (i : Nat))) (fun i => xs[i]?)) [a] R H1
theorem pi_enumS (hg : Gl X "enumerate") (hm : X.mg "enumerate" = none) (ha : PA X [e] ta) (hs : starEach [e] X.env = [(false, eval e X.env)] := by rfl) :
    PI X (.Tuple elts kk tpos) (.Call (.Name "enumerate" p) [e] [] pos) (iEnumS X.K ta) := by
  refine ⟨fun pn s σ H R I h => ?_⟩
  refine Call_ (ld_blt I hg hm boot_enumerate (PyProof.Rows.callWith_type1 (thn (ha.run pos pn s σ H _ I h) fun us s1 ⟨vs, H1, J1, rel1, post1⟩ => ?_) hs rfl))
  obtain ⟨a, xs, ex, hq, q⟩ := post1
  subst ex
  cases rel1 with
  | cons r rr =>
    cases rr
    cases r
    have fin : ∀ b ∈ [s1.heap.objs.size + 1, s1.heap.objs.size], s1.heap.objs.size ≤ b := fun b hb => by
      have ee : b = s1.heap.objs.size + 1 ∨ b = s1.heap.objs.size := by simpa using hb
      rcases ee with z | z
      · rw [z]; exact Nat.le_add_right _ _
      · rw [z]; exact Nat.le_refl _
    rcases hq with hq | hq
    · obtain ⟨vals, hvals, p', hLen⟩ := J1.list hq
      refine call_enumerate_list p'.isList fun h' he hit hSz hk => wpAny_pyIter_enum he ?_
      have J2 : Inv X pn σ H1 { s1 with heap := h' } := J1.kept (t' := s1.toks) hk
      exact ⟨s1.heap.objs.size + 1, [s1.heap.objs.size + 1, s1.heap.objs.size], _, _, H1, rfl, J2, turn_enum a (s1.heap.objs.size + 1) s1.heap.objs.size, ⟨⟨.none, he⟩, hit, Nat.succ_ne_self _⟩, fun b hb => J1.fpOk (fin b hb) (J1.hok.fresh (fin b hb)), q _ _ walk_enum fun H e => sqL_at hq (e a (by simp))⟩
    · obtain ⟨vals, hvals, p', hLen⟩ := J1.tuple hq
      have hal : a ≠ s1.heap.objs.size := by
        obtain ⟨o, e, _⟩ := (show s1.heap.IsTuple a vals.toArray from p')
        exact Nat.ne_of_lt (Heap.lt_size e)
      refine call_enumerate_tuple (show s1.heap.IsTuple a vals.toArray from p') fun h' he hit hSz hk => wpAny_pyIter_enum he ?_
      have J2 : Inv X pn σ H1 { s1 with heap := h' } := J1.kept (t' := s1.toks) hk
      exact ⟨s1.heap.objs.size + 1, [s1.heap.objs.size + 1, s1.heap.objs.size], _, _, H1, rfl, J2, turn_enumT a (s1.heap.objs.size + 1) s1.heap.objs.size hal, ⟨⟨.none, he⟩, hit, Nat.succ_ne_self _⟩, fun b hb => J1.fpOk (fin b hb) (J1.hok.fresh (fin b hb)), q _ _ walk_enumT fun H e => sqT_at hq (e a (by simp))⟩
end
/-! ### comprehensions -/
/-- [e for x in .. if p]: the new list at D holds, for the turns with p, values in the relation Rel -/
theorem lc_gen {J : It} {n : Nat} {G : Hp → Prop} {Y : Nat → Hp → V → Hp → Prop} (w : Walk J n G Y) {g : TG} {tt : TT} {te : TE} {vs : List Nat} {σ : L2.St} {H1 : Hp} {D : Addr} {Qd : Hp → Prop}
    (hD : H1 D = none) (hn : n ≤ 1000) (hG : ∀ H, Same H1 H → G H) (p : Nat → Bool) (Rel : Nat → V → Hp → Prop)
    (mono : ∀ i v H H' acc, H D = some (.lst acc) → Off D H H' → Rel i v H → Rel i v H')
    (step : ∀ (i : Nat) (x : V) (H H' : Hp) (acc : List V) (Ko : VK) (Kn : Hp → Prop), i < n → Same H1 H → H D = some (.lst acc) → Y i H x H' → (p i = true → ∀ y H4, Same H H4 → Rel i y H4 → Ko y H4) → (p i = false → ∀ H3, Same H H3 → Kn H3) →
      g x (wipe σ vs) H' fun σ2 H2 => wipe σ2 vs = wipe σ vs ∧ tt σ2 H2 fun b H3 => if b = true then te σ2 H3 Ko else Kn H3)
    (done : ∀ H l, Same H1 H → H D = some (.lst l) → Paired (fun i v => Rel i v H) ((List.range n).filter p) l → Qd H) :
    ∃ W : Nat → Nat → Hp → Prop, (∃ m, W 0 m (upd H1 D (.lst []))) ∧ ∀ i m H, W i m H →
      (J.stop i H ∧ Qd H) ∨ (J.go i H ∧ ∃ Nx : Hp → Prop, (∀ H', Nx H' → ∃ m', m' < m ∧ W (i + 1) m' H') ∧ ∀ x H', J.yld i H x H' → g x (wipe σ vs) H' fun σ2 H2 => wipe σ2 vs = wipe σ vs ∧ tt σ2 H2 fun b H3 =>
        if b = true then te σ2 H3 fun y H4 => ∃ acc, H4 D = some (.lst acc) ∧ acc.length < sizeLine ∧ Nx (upd H4 D (.lst (acc ++ [y]))) else Nx H3) := by
  refine lc_it w (Pv := fun i H => Same H1 H ∧ ∃ l, H D = some (.lst l) ∧ Paired (fun i v => Rel i v H) ((List.range i).filter p) l) ?_ (fun i H _ h => hG H h.1) ?_ (fun H h => let ⟨s, l, e, q⟩ := h; done H l s e q)
  · exact ⟨same_upd hD, [], upd_same, .nil⟩
  · rintro i x H H' hi ⟨s, l, e, q⟩ y
    have hl : l.length ≤ i := by
      have := q.length
      have h2 : ((List.range i).filter p).length ≤ (List.range i).length := List.length_filter_le _ _
      rw [List.length_range] at h2
      omega
    refine step i x H H' l _ _ hi s e y (fun hp y H4 s4 r => ?_) fun hp H3 s3 => ?_
    · refine ⟨l, s4 _ _ e, small1000 (by omega), fun c o h => ?_, l ++ [y], upd_same, ?_⟩
      · exact Off.upd c o (ne_of_none h hD) (s4 _ _ (s _ _ h))
      · rw [List.range_succ, List.filter_append, List.filter_cons, List.filter_nil, if_pos hp]
        refine Paired.snoc (L2.Paired.mapP q fun j v r => mono j v H _ l e ?_ r) (mono i y H4 _ l (s4 _ _ e) Off.upd r)
        exact Off.trans (Same.off s4) Off.upd
    · refine ⟨fun c o h => s3 _ _ (s _ _ h), l, s3 _ _ e, ?_⟩
      rw [List.range_succ, List.filter_append, List.filter_cons, List.filter_nil, if_neg (by rw [hp]; exact Bool.false_ne_true), List.append_nil]
      exact L2.Paired.mapP q fun j v r => mono j v H _ l e (Same.off s3) r
/-- without a test -/
theorem lc_all {J : It} {n : Nat} {G : Hp → Prop} {Y : Nat → Hp → V → Hp → Prop} (w : Walk J n G Y) {g : TG} {te : TE} {vs : List Nat} {σ : L2.St} {H1 : Hp} {D : Addr} {Qd : Hp → Prop}
    (hD : H1 D = none) (hn : n ≤ 1000) (hG : ∀ H, Same H1 H → G H) (Rel : Nat → V → Hp → Prop)
    (mono : ∀ i v H H' acc, H D = some (.lst acc) → Off D H H' → Rel i v H → Rel i v H')
    (step : ∀ (i : Nat) (x : V) (H H' : Hp) (acc : List V) (Ko : VK), i < n → Same H1 H → H D = some (.lst acc) → Y i H x H' → (∀ y H4, Same H H4 → Rel i y H4 → Ko y H4) →
      g x (wipe σ vs) H' fun σ2 H2 => wipe σ2 vs = wipe σ vs ∧ te σ2 H2 Ko)
    (gm : ∀ x σ1 H (Q Q' : L2.St → Hp → Prop), (∀ σ2 H2, Q σ2 H2 → Q' σ2 H2) → g x σ1 H Q → g x σ1 H Q')
    (done : ∀ H l, Same H1 H → H D = some (.lst l) → Paired (fun i v => Rel i v H) (List.range n) l → Qd H) :
    ∃ W : Nat → Nat → Hp → Prop, (∃ m, W 0 m (upd H1 D (.lst []))) ∧ ∀ i m H, W i m H →
      (J.stop i H ∧ Qd H) ∨ (J.go i H ∧ ∃ Nx : Hp → Prop, (∀ H', Nx H' → ∃ m', m' < m ∧ W (i + 1) m' H') ∧ ∀ x H', J.yld i H x H' → g x (wipe σ vs) H' fun σ2 H2 => wipe σ2 vs = wipe σ vs ∧ tYes σ2 H2 fun b H3 =>
        if b = true then te σ2 H3 fun y H4 => ∃ acc, H4 D = some (.lst acc) ∧ acc.length < sizeLine ∧ Nx (upd H4 D (.lst (acc ++ [y]))) else Nx H3) := by
  refine lc_gen w hD hn hG (fun _ => true) Rel mono (fun i x H H' acc Ko Kn hi s e y k _ => ?_) fun H l s e q => done H l s e (by rw [List.filter_eq_self.mpr (fun _ _ => rfl)] at q; exact q)
  refine gm _ _ _ _ _ (fun σ2 H2 q => ⟨q.1, ?_⟩) (step i x H H' acc Ko hi s e y (k rfl))
  exact (show if true = true then te σ2 H2 Ko else Kn H2 from iteT q.2)
theorem gm_name {j : Nat} : ∀ (x : V) (σ1 : L2.St) (H : Hp) (Q Q' : L2.St → Hp → Prop), (∀ σ2 H2, Q σ2 H2 → Q' σ2 H2) → gName j x σ1 H Q → gName j x σ1 H Q' := fun _ _ _ _ _ h q => h _ _ q
theorem gm_pair {K : Frag} {i j : Nat} : ∀ (x : V) (σ1 : L2.St) (H : Hp) (Q Q' : L2.St → Hp → Prop), (∀ σ2 H2, Q σ2 H2 → Q' σ2 H2) → gTup K 2 (gCons (gName i) (gCons (gName j) gNil)) x σ1 H Q → gTup K 2 (gCons (gName i) (gCons (gName j) gNil)) x σ1 H Q' := by
  rintro x σ1 H Q Q' h ⟨a, xs, e, s, l, v, r, e1, v', r', e2, e3, q⟩
  exact ⟨a, xs, e, s, l, v, r, e1, v', r', e2, e3, h _ _ q⟩
/-- a pair unpacked into two slots -/
theorem g_pair {K : Frag} {i j : Nat} {T : Addr} {x y : V} {σ : L2.St} {H : Hp} {Q : L2.St → Hp → Prop} (hn : H T = none) (q : Q ((σ.set i (some x)).set j (some y)) (upd H T (.tup [x, y]))) : gTup K 2 (gCons (gName i) (gCons (gName j) gNil)) (.ref T) σ (upd H T (.tup [x, y])) Q :=
  ⟨T, [x, y], rfl, .inl (.inl upd_same), rfl, x, [y], rfl, y, [], rfl, rfl, q⟩
/-! ### list or tuple: slices -/
section
variable {X : Cx}
def rSlS (K : Frag) : V → Option Int → Option Int → Hp → VK → Prop := fun x lo hi H Q => rSlL K x lo hi H Q ∨ rSlT K x lo hi H Q
theorem sl_seq : SlR X (rSlS X.K) := sl_list.or sl_tup
end
end Gm
namespace Gm
open PySem PySem.Spec PyProof.Rows L2
theorem rIx_seq {K : Frag} {H : Hp} {a : Addr} {xs : List V} {i : Int} {v : V} {Q : VK} (hs : Seq K H a xs) (e : atI xs i = some v) (q : Q v H) : rIx K (.ref a) (.int i) H Q :=
  hs.elim (fun h => .inl ⟨a, xs, i, v, rfl, rfl, h, e, q⟩) fun h => .inr (.inl ⟨a, xs, i, v, rfl, rfl, h, e, q⟩)
end Gm
namespace Gm
open PySem PySem.Spec PyProof.Rows L2
/-! ### the layer's rules with the written part named (for a comprehension's block) -/
section
variable {X : Cx}
theorem ixS (K : Frag) (hK : X.K = K) : IxR X (rIx K) := by subst hK; exact ix_seq
theorem ixT (K : Frag) (hK : X.K = K) : IxR X (rIxT K) := by subst hK; exact ix_tup
theorem ixL (K : Frag) (hK : X.K = K) : IxR X (rIxL K) := by subst hK; exact ix_list
def rLen (K : Frag) : List V → Hp → VK → Prop := fun xs H Q => ∃ p ys, xs = [.ref p] ∧ Seq K H p ys ∧ Q (.int ys.length) H
theorem lenS (K : Frag) (hK : X.K = K) : CallR X (.builtin "len") (rLen K) := by subst hK; exact call_len_seq
theorem sumK (K : Frag) (hK : X.K = K) (hc : X.calm = true) : CallR X (.builtin "sum") (rSum K) := by subst hK; exact cr_sum hc
theorem allK (K : Frag) (hK : X.K = K) (hc : X.calm = true) : CallR X (.builtin "all") (rAll K) := by subst hK; exact cr_all hc
theorem isiK (K : Frag) (hK : X.K = K) : CallR X (.builtin "isinstance") (rIsi K) := by subst hK; exact call_isi
theorem isiTK (K : Frag) (hK : X.K = K) : CallR X (.builtin "isinstance") (rIsiT K) := by subst hK; exact call_isiT
def rTupleOf (K : Frag) : List V → Hp → VK → Prop := fun xs H Q => ∃ p ys, xs = [.ref p] ∧ ((SqL K H p ys ∧ ∀ l, H l = none → Q (.ref l) (upd H l (.tup ys))) ∨ (SqT K H p ys ∧ Q (.ref p) H))
theorem tupK (K : Frag) (hK : X.K = K) : CallR X (.type "tuple") (rTupleOf K) := by subst hK; exact call_tuple_of
def rListOf (K : Frag) : List V → Hp → VK → Prop := fun xs H Q => ∃ p ys, xs = [.ref p] ∧ Seq K H p ys ∧ ∀ l, H l = none → Q (.ref l) (upd H l (.lst ys))
theorem listK (K : Frag) (hK : X.K = K) : CallR X (.type "list") (rListOf K) := by subst hK; exact call_list_of
theorem catK (K : Frag) (hK : X.K = K) : OpR X (binaryOp .Add) (rCatA K) := by subst hK; exact op_catA
theorem slTK (K : Frag) (hK : X.K = K) : SlR X (rSlA K) := by subst hK; exact sl_tupA
theorem slLK (K : Frag) (hK : X.K = K) : SlR X (rSlL K) := by subst hK; exact sl_list
theorem slSK (K : Frag) (hK : X.K = K) : SlR X (rSlS K) := by subst hK; exact sl_seq
theorem eqDK (K : Frag) (hK : X.K = K) {k : Nat} (hr : Room k X.A) : OpR X (compareOp .Eq) (rEqD K) := by subst hK; exact op_eqD hr.units
theorem neDK (K : Frag) (hK : X.K = K) {k : Nat} (hr : Room k X.A) : OpR X (compareOp .NotEq) (rNeD K) := by subst hK; exact op_neD hr.units
variable {e e2 tg : Expr} {te ta : TE} {f : Str} {p pos tpos : Pos} {elts : List Expr} {kk : Nat} {tas : TA}
theorem fldK (K : Frag) (hK : X.K = K) (he : PE X e ta) (hb : attributeBase e f X.env (eval e X.env) = eval e X.env) : PE X (.Attribute e f pos) (tFld K ta f) := by subst hK; exact pe_fld he hb
theorem piS (K : Frag) (hK : X.K = K) (he : PE X e te) : PI X tg e (iSeq K te) := by subst hK; exact pi_seq he
/-- a tuple alone -/
theorem piEnum (K : Frag) (hK : X.K = K) (hg : Gl X "enumerate") (hm : X.mg "enumerate" = none) (ha : PA X [e] tas) (hs : starEach [e] X.env = [(false, eval e X.env)] := by rfl) :
    PI X (.Tuple elts kk tpos) (.Call (.Name "enumerate" p) [e] [] pos) (iEnumS K tas) := by subst hK; exact pi_enumS hg hm ha hs
def iZipT (K : Frag) (ta : TA) : TI := fun σ H R => ta σ H fun vs H1 => ∃ a b xs ys, vs = [.ref a, .ref b] ∧ SqT K H1 a xs ∧ SqT K H1 b ys ∧ R (RZ.ItzT K a b) H1
theorem piZipT (K : Frag) (hK : X.K = K) (hg : Gl X "zip") (hm : X.mg "zip" = none) (ha : PA X [e, e2] tas)
    (mono : ∀ σ H (Q Q' : List V → Hp → Prop), (∀ vs H, Q vs H → Q' vs H) → tas σ H Q → tas σ H Q')
    (hs : starEach [e, e2] X.env = (false, eval e X.env) :: starEach [e2] X.env := by rfl) (hpl : (backTo pos (starEach [e2] X.env)).any (·.1) = false := by rfl) :
    PI X (.Tuple elts kk tpos) (.Call (.Name "zip" p) [e, e2] [] pos) (iZipT K tas) := by
  subst hK
  refine ⟨fun pn s σ H R I h => (RZ.pi_zipA hg hm ha hs hpl).run pn s σ H R I (mono σ H _ _ (fun vs H1 q => ?_) h)⟩
  obtain ⟨a, b, xs, ys, e, h1, h2, q⟩ := q
  exact ⟨a, b, xs, ys, e, .inr ⟨h1, h2, q⟩⟩
end
end Gm
namespace Gm
open PySem PySem.Spec PyProof.Rows L2
theorem paired_true : ∀ {is : List Nat} {l : List V}, Paired (fun (_ : Nat) v => v = V.bl true) is l → l = (List.replicate l.length true).map V.bl
  | _, _, .nil => rfl
  | _, _, .cons r t => by
    rw [List.length_cons, List.replicate_succ, List.map_cons, ← r, ← paired_true t]
theorem all_true (n : Nat) : (List.replicate n true).all id = true := by
  induction n with
  | zero => rfl
  | succ n ih => rw [List.replicate_succ, List.all_cons, ih] <;> rfl
/-- values in relation with the items of a list, by place -/
theorem paired_at {α : Type} {F : V → α → Prop} {m : List α} : ∀ {n : Nat} {l : List V}, n = m.length → Paired (fun (i : Nat) v => ∃ x, m[i]? = some x ∧ F v x) (List.range n) l → Paired F l m := by
  intro n l hn h
  subst hn
  have key : ∀ (is : List Nat) (l : List V) (xs : List α), Paired (fun (i : Nat) v => ∃ x, m[i]? = some x ∧ F v x) is l → is.map (fun i => m[i]?) = xs.map some → Paired F l xs := by
    intro is l xs h
    induction h generalizing xs with
    | nil =>
      intro e
      cases xs with
      | nil => exact .nil
      | cons a b => cases e
    | cons r t ih =>
      intro e
      cases xs with
      | nil => cases e
      | cons a b =>
        rw [List.map_cons, List.map_cons] at e
        obtain ⟨x, ex, fx⟩ := r
        have e1 := (List.cons.inj e).1
        have e2 := (List.cons.inj e).2
        rw [ex] at e1
        cases e1
        exact .cons fx (ih b e2)
  refine key _ l m h ?_
  apply List.ext_getElem?
  intro i
  rw [List.getElem?_map, List.getElem?_map]
  by_cases hi : i < m.length
  · rw [List.getElem?_range hi, List.getElem?_eq_getElem hi]
    exact congrArg some (List.getElem?_eq_getElem hi)
  · rw [List.getElem?_eq_none (by simpa using hi), List.getElem?_eq_none (by omega)]
    rfl
end Gm
namespace Gm
open PySem PySem.Spec PyProof.Rows L2
section
variable {K : Frag} {H : Hp} {a b : Addr} {xs ys : List V} {Q : VK}
theorem cut_take (xs : List V) (j : Nat) : cutV xs none (some (j : Int)) = xs.take j := by
  unfold cutV
  rw [HT.sIx_none, HT.sIx_nat, List.drop_zero, Nat.sub_zero]
  by_cases h : j ≤ xs.length
  · rw [Nat.min_eq_left h]
  · rw [Nat.min_eq_right (by omega), List.take_length, List.take_of_length_le (by omega)]
theorem cut_drop (xs : List V) (j : Nat) : cutV xs (some (j : Int)) none = xs.drop j := by
  unfold cutV
  rw [HT.sIx_none, HT.sIx_nat]
  by_cases h : j ≤ xs.length
  · rw [Nat.min_eq_left h, List.take_of_length_le (by rw [List.length_drop]; exact Nat.le_refl _)]
  · rw [Nat.min_eq_right (by omega), Nat.sub_self, List.take_zero, List.drop_of_length_le (by omega)]
theorem slA_take (h : SqT K H a xs) (j : Nat) (q : ∀ p H', Same H H' → SqT K H' p (xs.take j) → Q (.ref p) H') : rSlA K (.ref a) none (some (j : Int)) H Q := by
  refine ⟨a, xs, rfl, h, fun e => ?_, fun _ p np => ?_⟩
  · have e2 : min j xs.length = xs.length := by
      have := e.2
      rw [HT.sIx_nat] at this
      exact this
    refine q a H (Same.refl _) ?_
    rw [List.take_of_length_le (by omega)]
    exact h
  · exact q p _ (same_upd np) (.inl (.inl (by rw [upd_same, cut_take])))
theorem slA_drop (h : SqT K H a xs) (j : Nat) (q : ∀ p H', Same H H' → SqT K H' p (xs.drop j) → Q (.ref p) H') : rSlA K (.ref a) (some (j : Int)) none H Q := by
  refine ⟨a, xs, rfl, h, fun e => ?_, fun _ p np => ?_⟩
  · have e2 : min j xs.length = 0 := by
      have := e.1
      rw [HT.sIx_nat] at this
      exact this
    refine q a H (Same.refl _) ?_
    by_cases hj : j = 0
    · rw [hj]
      exact h
    · have : xs = [] := List.eq_nil_of_length_eq_zero (by omega)
      rw [this] at h ⊢
      simpa using h
  · exact q p _ (same_upd np) (.inl (.inl (by rw [upd_same, cut_drop])))
theorem catA (hx : SqT K H a xs) (hy : SqT K H b ys) (hl : xs.length + ys.length ≤ 1000) (q : ∀ p H', Same H H' → SqT K H' p (xs ++ ys) → Q (.ref p) H') : rCatA K (.ref a) (.ref b) H Q := by
  refine ⟨a, b, xs, ys, rfl, rfl, hx, hy, Nat.le_of_lt (small1000 hl), fun e => ?_, fun _ e => ?_, fun _ _ p np => ?_⟩
  · subst e
    exact q b H (Same.refl _) hy
  · subst e
    refine q a H (Same.refl _) ?_
    rw [List.append_nil]
    exact hx
  · exact q p _ (same_upd np) (.inl (.inl upd_same))
end
/-- lists of ints, apart from D: a list of such lists is a matrix -/
theorem lists_rows {K : Frag} {H : Hp} {D : Addr} {l : List V} {m : List (List Int)} {n : Nat} (hn : n = m.length) (e : H D = some (.lst l)) (h : Paired (fun (i : Nat) v => ∃ p, v = V.ref p ∧ p ≠ D ∧ H p = some (.lst ((m.getD i []).map V.int))) (List.range n) l) : IRows K H (.ref D) m := by
  refine ⟨D, l, rfl, .inl (.inl (.inl e)), paired_at (m := m) hn ?_⟩
  have key : ∀ (is : List Nat) (l : List V), (∀ i ∈ is, i < m.length) → Paired (fun (i : Nat) v => ∃ p, v = V.ref p ∧ p ≠ D ∧ H p = some (.lst ((m.getD i []).map V.int))) is l → Paired (fun (i : Nat) v => ∃ x, m[i]? = some x ∧ IRow K H v x) is l := by
    intro is l hi h
    induction h with
    | nil => exact .nil
    | cons r t ih =>
      obtain ⟨p, rfl, _, e⟩ := r
      have h1 := hi _ (List.mem_cons_self ..)
      refine .cons ⟨_, List.getElem?_eq_getElem h1, p, rfl, .inl (.inl (.inl ?_))⟩ (ih fun i h => hi i (List.mem_cons_of_mem _ h))
      rw [List.getD_eq_getElem?_getD, List.getElem?_eq_getElem h1] at e
      exact e
  exact key _ _ (fun i h => by rw [List.mem_range] at h; omega) h
theorem lists_mono {D : Addr} {f : Nat → List Int} (i : Nat) (v : V) (H H' : Hp) (acc : List V) (_ : H D = some (.lst acc)) (o : Off D H H') (h : ∃ p, v = V.ref p ∧ p ≠ D ∧ H p = some (.lst ((f i).map V.int))) : ∃ p, v = V.ref p ∧ p ≠ D ∧ H' p = some (.lst ((f i).map V.int)) :=
  let ⟨p, e, n, h⟩ := h
  ⟨p, e, n, o _ _ n h⟩
/-- ints by place -/
theorem ints_list {l : List V} {ns : List Int} {n : Nat} (hn : n = ns.length) (h : Paired (fun (i : Nat) v => ∃ x, ns[i]? = some x ∧ v = V.int x) (List.range n) l) : l = ns.map V.int := paired_ints (paired_at hn h)
end Gm
namespace Gm
open PySem PySem.Spec PyProof.Rows L2
theorem tyes_of {σ : L2.St} {H : Hp} {q : Hp → Prop} {r : Hp → Prop} (h : q H) : tYes σ H fun b H3 => if b = true then q H3 else r H3 := iteT (A := q H) (B := r H) h
/-- a comprehension whose turns may change other objects: A is kept, the values are told without the heap -/
theorem lc_val {J : It} {n : Nat} {G : Hp → Prop} {Y : Nat → Hp → V → Hp → Prop} (w : Walk J n G Y) {g : TG} {te : TE} {vs : List Nat} {σ : L2.St} {H1 : Hp} {D : Addr} {Qd : Hp → Prop}
    (hn : n ≤ 1000) (A : Hp → Prop) (A0 : A (upd H1 D (.lst []))) (hG : ∀ H, A H → G H) (Au : ∀ H acc acc', A H → H D = some (.lst acc) → A (upd H D (.lst acc'))) (Rel : Nat → V → Prop)
    (step : ∀ (i : Nat) (x : V) (H H' : Hp) (acc : List V) (Ko : VK), i < n → A H → H D = some (.lst acc) → Y i H x H' → (∀ y H4, A H4 → H4 D = some (.lst acc) → Rel i y → Ko y H4) →
      g x (wipe σ vs) H' fun σ2 H2 => wipe σ2 vs = wipe σ vs ∧ te σ2 H2 Ko)
    (gm : ∀ (x : V) (σ1 : L2.St) (H : Hp) (Q Q' : L2.St → Hp → Prop), (∀ σ2 H2, Q σ2 H2 → Q' σ2 H2) → g x σ1 H Q → g x σ1 H Q')
    (done : ∀ H l, A H → H D = some (.lst l) → Paired (fun i v => Rel i v) (List.range n) l → Qd H) :
    ∃ W : Nat → Nat → Hp → Prop, (∃ m, W 0 m (upd H1 D (.lst []))) ∧ ∀ i m H, W i m H →
      (J.stop i H ∧ Qd H) ∨ (J.go i H ∧ ∃ Nx : Hp → Prop, (∀ H', Nx H' → ∃ m', m' < m ∧ W (i + 1) m' H') ∧ ∀ x H', J.yld i H x H' → g x (wipe σ vs) H' fun σ2 H2 => wipe σ2 vs = wipe σ vs ∧ tYes σ2 H2 fun b H3 =>
        if b = true then te σ2 H3 fun y H4 => ∃ acc, H4 D = some (.lst acc) ∧ acc.length < sizeLine ∧ Nx (upd H4 D (.lst (acc ++ [y]))) else Nx H3) := by
  refine lc_it w (Pv := fun i H => A H ∧ ∃ l, H D = some (.lst l) ∧ Paired (fun i v => Rel i v) (List.range i) l) ?_ (fun i H _ h => hG H h.1) ?_ (fun H h => let ⟨s, l, e, q⟩ := h; done H l s e q)
  · exact ⟨A0, [], upd_same, .nil⟩
  · rintro i x H H' hi ⟨a, l, e, q⟩ y
    have hl : l.length = i := by
      have := q.length
      rw [List.length_range] at this
      omega
    refine gm _ _ _ _ _ (fun σ2 H2 q => ⟨q.1, tyes_of q.2⟩) (step i x H H' l _ hi a e y fun y H4 a4 e4 r => ?_)
    refine ⟨l, e4, small1000 (by omega), Au _ _ _ a4 e4, l ++ [y], upd_same, ?_⟩
    rw [List.range_succ]
    exact Paired.snoc q r
theorem ixN_nat {n k : Nat} (h : k < n) : ixN n (k : Int) = some k := by
  unfold ixN
  first
    | simp [h]
    | (split <;> simp_all <;> omega)
    | omega
end Gm
namespace Gm
open PySem PySem.Spec PyProof.Rows L2
theorem vals_small {is : List Nat} {l : List V} {M : Nat} (h : Paired (fun (_ : Nat) v => ∃ z : Int, v = V.int z ∧ z.natAbs ≤ M) is l) : ∃ zs : List Int, l = zs.map V.int ∧ zs.length = is.length ∧ ∀ z ∈ zs, z.natAbs ≤ M := by
  induction h with
  | nil => exact ⟨[], rfl, rfl, fun z hLen => by cases hLen⟩
  | cons r t ih =>
    obtain ⟨z, rfl, hLen⟩ := r
    obtain ⟨zs, rfl, hl, hb⟩ := ih
    exact ⟨z :: zs, rfl, by rw [List.length_cons, List.length_cons, hl], fun y hy => by
      rcases List.mem_cons.mp hy with rfl | hy
      · exact hLen
      · exact hb y hy⟩
theorem paired_set {α β : Type} {F : α → β → Prop} {x : α} {y : β} (r : F x y) : ∀ {xs : List α} {ys : List β} (i : Nat), Paired F xs ys → Paired F (xs.set i x) (ys.set i y)
  | _, _, _, .nil => .nil
  | _, _, 0, .cons _ t => .cons r t
  | _, _, i + 1, .cons q t => .cons q (paired_set r i t)
end Gm
namespace Gm
open PySem PySem.Spec PyProof.Rows L2
theorem piT {X : Cx} {e tg : Expr} {te : TE} (K : Frag) (hK : X.K = K) (he : PE X e te) : PI X tg e (iTup K te) := by subst hK; exact pi_tup he
theorem piL {X : Cx} {e tg : Expr} {te : TE} (K : Frag) (hK : X.K = K) (he : PE X e te) : PI X tg e (iList K te) := by subst hK; exact pi_list he
end Gm
namespace Gm
open PySem PySem.Spec PyProof.Rows L2
theorem slS_drop1 {K : Frag} {H : Hp} {a : Addr} {ws : List V} {Q : VK} (hs : Seq K H a ws) (h0 : 0 < ws.length) (q : ∀ p H', Same H H' → Seq K H' p (ws.drop 1) → Q (.ref p) H') : rSlS K (.ref a) (some 1) none H Q := by
  rcases hs with hs | hs
  · exact .inl ⟨a, ws, rfl, hs, fun p np => q p _ (same_upd np) (.inl (.inl (.inl (by rw [upd_same, show (1 : Int) = ((1 : Nat) : Int) from rfl, cut_drop]))))⟩
  · refine .inr ⟨a, ws, rfl, hs, fun e => ?_, fun p np => q p _ (same_upd np) (.inr (.inl (.inl (by rw [upd_same, show (1 : Int) = ((1 : Nat) : Int) from rfl, cut_drop]))))⟩
    have := e.1
    rw [show (1 : Int) = ((1 : Nat) : Int) from rfl, HT.sIx_nat] at this
    omega
end Gm
/-! The end of a law whose promise wants that nobody looks on (// of any size), with the script's bits. -/
namespace Gm
open PySem PySem.Spec PyProof.Rows L2
section
variable {P : Program} {w : World} {K : PySem.W.Frag} {h : Heap} {a : Addr} {o : Obj} {xs : List V}
/-- the heap in the proof's words: the script alone, if the module doesn't own it -/
def scr (K : PySem.W.Frag) (a : Addr) (o : Obj) (xs : List V) : Hp := fun b => if b = a ∧ K.lookup a = none then some (.frz o (.lst xs)) else none
theorem scr_some {b : Addr} {u : HO} (e : scr K a o xs b = some u) : b = a ∧ K.lookup a = none ∧ u = .frz o (.lst xs) := by
  unfold scr at e
  split at e
  · rename_i hh
    exact ⟨hh.1, hh.2, (Option.some.inj e).symm⟩
  · cases e
theorem scr_only : Only (scr K a o xs) := fun b => by
  cases e : scr K a o xs b with
  | none => exact .inl rfl
  | some u => exact .inr ⟨o, xs, by rw [(scr_some e).2.2]⟩
theorem scr_none {b : Addr} (n : b ≠ a) : scr K a o xs b = none := if_neg fun q => n q.1
variable (ha : h.get? a = some o)
include ha
theorem scr_other {b : Addr} {o' : Obj} (e : h.get? b = some o') (n : o'.cls ≠ o.cls ∨ ∃ es ep, o'.data = .dict es ep ∧ ∀ es ep, o.data ≠ .dict es ep) : scr K a o xs b = none := by
  refine scr_none fun z => ?_
  rw [z, ha] at e
  cases e
  rcases n with n | ⟨es, ep, e1, n⟩
  · exact n rfl
  · exact n es ep e1
theorem scr_ns (hd : ∀ es ep, o.data ≠ .dict es ep) {b : Addr} {m : Str → Option Value} (q : h.Ns b m) : (hidT h (scr K a o xs)).Ns b m := by
  obtain ⟨o', es, ep, e, d, r⟩ := q
  exact ⟨o', es, ep, hidT_get e (scr_other ha e (.inr ⟨es, ep, d, hd⟩)), d, r⟩
theorem scr_in (X : K.In h) : K.In (hidT h (scr K a o xs)) := fun b o' e => hidT_get (X b o' e) (by
  cases q : scr K a o xs b with
  | none => rfl
  | some u =>
    obtain ⟨rfl, n, _⟩ := scr_some q
    rw [n] at e
    cases e)
theorem scr_seer (hd : ∀ es ep, o.data ≠ .dict es ep) (hc : o.cls ≠ .type "module") (x : h.NoSeer) : (hidT h (scr K a o xs)).NoSeer where
  statics := let ⟨mc, q, r⟩ := x.statics; ⟨mc, scr_ns ha hd q, r⟩
  mods := let ⟨mc, q, r⟩ := x.mods; ⟨mc, scr_ns ha hd q, r⟩
  imp := let ⟨mc, q, r⟩ := x.imp; ⟨mc, scr_ns ha hd q, r⟩
  main := let ⟨mg, bm, ob, q, r, e, c, d⟩ := x.main; ⟨mg, bm, ob, scr_ns ha hd q, r, hidT_get e (scr_other ha e (.inl fun z => hc (z.symm.trans c))), c, d⟩
end
theorem law_callN {P : Program} {w : World} {K : PySem.W.Frag} {mg mb : Str → Option Value} {k : Nat} {fa a : Addr} {fd : FuncData} {x : Str} {sp : Sp} {s₁ : Shared} {vs : List Value} {ns : List Int}
    (X : K.In s₁.heap) (hns : s₁.heap.Ns mainGlobals mg) (hb : s₁.heap.Ns builtinsNs mb) (hbb : ∀ x : Str, x ≠ "__name__" → mb x = bootBuiltins x) (hlim : s₁.heap.NoLimit) (hseer : s₁.heap.NoSeer) (hg : s₁.gens = #[])
    (ha : s₁.heap.get? a = some { cls := .type "list", data := .seq vs.toArray }) (hi : IntsAre vs ns) (hl : ns.length ≤ sizeLine) (hr : Room k callerA)
    (F : ∀ base : Heap, K.In base → base.Ns mainGlobals mg → base.NoSeer → FnOk P w K mg base CX0 k fa fd [x] sp) (hbind : ∀ (s : Shared) (u : Value), BindsTo s fd ⟨[u], []⟩ [(x, u)])
    (hsp : ∀ H : Hp, Only H → SqL K H a (ns.map V.int) → sp [.ref a] H (fun v _ => v = .bl true) fun _ _ _ => False) :
    codeAny (model P w) callerA (.call (.ref fa) ⟨[.ref a], []⟩) (fun r s' => r = .ok (.ret (.bool true)) ∧ OldK s₁.heap s'.heap ∧ s'.os = s₁.os ∧ AllBare s'.gens) s₁ := by
  have hd : ∀ es ep, ({ cls := .type "list", data := .seq vs.toArray } : Obj).data ≠ .dict es ep := fun es ep z => by cases z
  have rv := vals_ints hi
  generalize hHdef : scr K a { cls := .type "list", data := .seq vs.toArray } (ns.map V.int) = H
  have hO : Only H := hHdef ▸ scr_only
  have hSq : SqL K H a (ns.map V.int) := by
    cases hk : K.lookup a with
    | none => exact .inl (.inr ⟨_, by rw [← hHdef]; exact if_pos ⟨rfl, hk⟩⟩)
    | some o =>
      have e := X a o hk
      rw [ha] at e
      cases e
      exact .inr ⟨_, vs.toArray, _, hk, rfl, rfl, rfl, by rw [List.size_toArray, hi.length]; exact hl, by simpa using rv⟩
  have hok : HOk P w H s₁.heap := fun b u z => by
    rw [← hHdef] at z
    obtain ⟨rfl, _, rfl⟩ := scr_some z
    exact ⟨ha, by rw [List.length_map]; exact hl, vs, _, rv, ha⟩
  have hIn : K.In (hidT s₁.heap H) := hHdef ▸ scr_in ha X
  have hNs : ∀ {b : Addr} {m : Str → Option Value}, s₁.heap.Ns b m → (hidT s₁.heap H).Ns b m := fun q => hHdef ▸ scr_ns ha hd q
  have hSr : (hidT s₁.heap H).NoSeer := hHdef ▸ scr_seer ha hd (fun z => absurd (Value.type.inj z) (by decide)) hseer
  have e0 : Env0 P w K mg (hidT s₁.heap H) callerA [] s₁ H :=
    ⟨rfl, ⟨hIn, hNs hns, ⟨mb, hNs hb, hbb⟩, let ⟨mc, h1, h2⟩ := hlim; ⟨mc, hNs h1, h2⟩⟩, fun b o e => of_hidT e, Nat.le_of_eq (hidT_size _ _), trivial, (fun b hb => nomatch (show b ∈ ([] : List Addr) from hb)), hok, .of_eq hg⟩
  have main := (F _ hIn (hNs hns) hSr).run callerA [] s₁ H ⟨[.ref a], []⟩ [.ref a] [.ref a] _ _ hr e0 (hbind s₁ (.ref a)) (.cons rfl .nil) (hsp H hO hSq)
  refine codeAny_mono main fun r s' q => ?_
  match r, q with
  | .error e, q => exact q.elim
  | .ok .next, q => exact False.elim q
  | .ok .brk, q => exact False.elim q
  | .ok .cont, q => exact False.elim q
  | .ok (.ret u), q =>
    obtain ⟨v, H', os, bare, un, hok', rr, qv⟩ := q
    cases (show v = .bl true from qv)
    cases (show u = Value.bool true from rr)
    refine ⟨rfl, OldK.of_keep fun b o e => ?_, os, bare⟩
    cases hb' : H b with
    | none => exact un.keep b o e hb' (fun z => nomatch (show b ∈ ([] : List Addr) from z)) (by simp)
    | some u =>
      obtain ⟨ob, l, z⟩ := (hO b).resolve_left (by rw [hb']; simp)
      have e1 := (hok b _ z).1
      rw [e] at e1
      cases e1
      exact (hok' b _ (un.frzs b _ _ z)).1
theorem walk_ofN {l : PySem.W.OpenLaw} {n k : Nat} {q : Program} {loose : List Str} {XP : (Str → Option Value) → Heap → Prop} {YP : World → Heap → Prop} {d : DefRec} {K : Params → PySem.W.Frag} {sp : PySem.W.Frag → Sp} {x : Str}
    (hn : l.most = some n) (hn2 : n ≤ sizeLine) (hdf : d.params.defaults = []) (hr : Room k callerA) (hq : importsNone q = true)
    (hY : ∀ (w : World) (h : Heap), YP w h → (K w.params).In h)
    (F : ∀ (w : World) (mg : Str → Option Value) (fa : Addr) (h : Heap), YP w h → (K w.params).In h → h.Ns mainGlobals mg → mg d.name = some (.ref fa) →
      ∃ fd : FuncData, (∀ (s : Shared) (u : Value), BindsTo s fd ⟨[u], []⟩ [(x, u)]) ∧
        ∀ base : Heap, (K w.params).In base → base.Ns mainGlobals mg → base.NoSeer → FnOk l.prog w (K w.params) mg base CX0 k fa fd [x] (sp (K w.params)))
    (hsp : ∀ (K : PySem.W.Frag) (H : Hp) (a : Addr) (ns : List Int), ns.length ≤ n → (∀ z ∈ ns, Builtin.Int.intBits z ≤ 1048576) → SqL K H a (ns.map V.int) → sp K [.ref a] H (fun v _ => v = .bl true) fun _ _ _ => False) :
    PySem.W.WalkO q loose XP YP l.row.toRowW d [] (fun f vs => PySem.call f vs) := by
  refine Att.attach_callB hn hdf fun w s₀ s₁ mg mb fa o pm cd doc a vs ns G Y ho hd hcd hmg hobj hints hlen hbits hg => ?_
  have X := hY w _ Y
  obtain ⟨fd, hb, hF⟩ := F w mg fa _ Y X G.T.g hmg
  exact law_callN X G.T.g G.T.b G.T.builtins G.T.nolimit (G.T.seer hq) hg hobj hints (Nat.le_trans hlen hn2) hr hF hb fun H _ hS => hsp _ H a ns hlen hbits hS
end Gm
/-! != of an own class that has only its own == -/
namespace Gm
open PySem PySem.Spec PyProof.Rows L2
section
variable {prog : Program} {w : World} {A : Around} {E : Value → Shared → Prop} {s : Shared} {K : PySem.W.Frag} {x y C f : Addr} {ox oy : Obj} {od od' : Option Obj}
/-- the end of the def's call, turned -/
abbrev NotBack (Q : Value → Shared → Prop) : Value → Shared → Prop := fun v s' => ∃ b, v = Value.bool b ∧ Q (.bool (!b)) s'
theorem objNe_body {Q : Fin → Shared → Prop} (X : K.In s.heap) (J : PySem.W.InstAt s.heap x ox C od) (hs : PySem.W.findIn K (.ref C) "__eq__" = some (some (.ref f))) (hf : PySem.W.isFn K (.ref f) = true) (hu : A.units < cLine)
    (h : wpAny (model prog w) A (call (.ref f) [.ref x, .ref y]) (fun v s' => ∃ b, v = Value.bool b ∧ Q (.done (.ret (.bool (!b)))) s') E s) : wpAny (model prog w) A (Builtin.«object.__ne__» ⟨[.ref x, .ref y], []⟩) Q E s := by
  unfold Builtin.«object.__ne__»
  repeat (first
    | with_reducible refine wpAny_cRoomFor hu ?_
    | (refine wpAny_bind (m := callSpecialIfBound? (.ref x) (Str.ofString "__eq__") [.ref y]) (PySem.W.ifBound_K X J hs hf (wpAny_mono h (fun v s' hv => ?_) fun _ _ e => e))
       obtain ⟨b, rfl, hq⟩ := hv
       repeat (first | exact hq | exact wpAny_pure hq | exact wpAny_truthy_bool hq | (refine wpAny_bind (m := truthy (.bool _)) (wpAny_truthy_bool ?_)) | wp_step))
    | wp_step)
theorem objNe_call {Q : Value → Shared → Prop} (X : K.In s.heap) (J : PySem.W.InstAt s.heap x ox C od) (hm : PySem.W.mroIn K C (.type "object") = some true) (hs : PySem.W.findIn K (.ref C) "__eq__" = some (some (.ref f))) (hf : PySem.W.isFn K (.ref f) = true) (hu : A.units + 1 < cLine)
    (h : wpAny (model prog w) A.in1 (call (.ref f) [.ref x, .ref y]) (NotBack Q) E s) : wpAny (model prog w) A (call (.builtin "object.__ne__") [.ref x, .ref y]) Q E s := by
  refine wpAny_call (codeAny_call_builtin F.cmp_object.ne.plain F.cmpEntry_ne (PySem.W.check_slot F.cmpKind_ne F.cmpSplit_ne (J.type.andThen (PySem.W.looks_mroIn X hm)) (F.cmpArgs_ne _ _) ?_))
  exact objNe_body X J hs hf hu h
theorem objNe_bound {args : List Value} {Q : Option Value → Shared → Prop} (X : K.In s.heap) (J : PySem.W.InstAt s.heap x ox C od) (hn : PySem.W.findIn K (.ref C) "__ne__" = some (some (.builtin "object.__ne__")))
    (h : wpAny (model prog w) A (call (.builtin "object.__ne__") (.ref x :: args)) (fun v => Q (some v)) E s) : wpAny (model prog w) A (callSpecialIfBound? (.ref x) "__ne__" args) Q E s := by
  have last : wpAny (model prog w) A (call (.builtin "object.__ne__") ([.ref x] ++ args) >>= fun v => pure (some v)) Q E s := wpAny_bind (wpAny_mono h (fun _ _ z => wpAny_pure z) fun _ _ z => z)
  have bnd := F.cmp_object.ne.bind (.ref x)
  simp only [callSpecialIfBound?, bindSpecialIfBound?]
  refine wpAny_holding (wpAny_bind (wpAny_bind (wpAny_bind (J.type.here ((PySem.W.looks_findIn X hn).here (wpAny_bind (wpAny_askSetting (wpAny_ite ?_))))))))
  split
  · exact wpAny_bind (wpAny_of_eq (F.cmp_object.ne.bind _) (wpAny_pure (by exact last)))
  · exact wpAny_tryCatch (wpAny_bind (wpAny_of_eq (F.cmp_object.ne.bind _) (wpAny_pure (by exact last))))
theorem cmpNe_K {Q : Value → Shared → Prop} (X : K.In s.heap) (J : PySem.W.InstAt s.heap x ox C od) (J' : PySem.W.InstAt s.heap y oy C od') (hm : PySem.W.mroIn K C (.type "object") = some true)
    (hn : PySem.W.findIn K (.ref C) "__ne__" = some (some (.builtin "object.__ne__"))) (hs : PySem.W.findIn K (.ref C) "__eq__" = some (some (.ref f))) (hf : PySem.W.isFn K (.ref f) = true) (hu : A.units + 1 < cLine)
    (h : wpAny (model prog w) A.in1 (call (.ref f) [.ref x, .ref y]) (NotBack Q) E s) : wpAny (model prog w) A (compareOp .NotEq (.ref x) (.ref y)) Q E s := by
  show wpAny (model prog w) A (richCompare .NotEq (.ref x) (.ref y)) Q E s
  have one : wpAny (model prog w) A (tryCompare (.ref x) "__ne__" (.ref y)) (fun r s' => ∃ v, r = some v ∧ Q v s') E s := by
    unfold tryCompare
    refine wpAny_bind (objNe_bound X J hn (objNe_call X J hm hs hf hu (wpAny_mono h (fun v s' hv => ?_) fun _ _ e => e)))
    obtain ⟨b, rfl, hq⟩ := hv
    exact ⟨b, rfl, wpAny_pure ⟨_, rfl, hq⟩⟩
  unfold richCompare
  rw [cmpInfo_NotEq]
  simp only [oneThing_ref]
  refine wpAny_holding (wpAny_bind (wpAny_cRoomFor (by omega) ?_))
  refine wpAny_bind (J.type.here (wpAny_bind (J'.type.here ?_)))
  rw [show (Value.ref C != Value.ref C) = false from by simp]
  simp only [Bool.false_eq_true, if_false]
  refine wpAny_bind (wpAny_pure ?_)
  simp only [Bool.false_eq_true, if_false]
  refine wpAny_bind (wpAny_mono one (fun r s' z => ?_) fun _ _ e => e)
  obtain ⟨v, rfl, hq⟩ := z
  exact wpAny_pure hq
end
section
variable {X : Cx} {C f : Addr} {fd : FuncData} {ps : List Str} {CX : CXT} {k : Nat} {sp : Sp}
/-- a != b, both instances of one own class that defines == (its own def answers True or False) -/
def rOwnNe (C : Addr) (sp : Sp) (E : XK) : R2 := fun x y H Q => ∃ a b dx dy fs gs, x = .ref a ∧ y = .ref b ∧ H a = some (.ins C dx fs) ∧ H b = some (.ins C dy gs) ∧ sp [x, y] H (fun v H' => ∃ t, v = .bl t ∧ Q (.bl (!t)) H') E
theorem op_ownNe {E : XK} (hm : PySem.W.mroIn X.K C (.type "object") = some true) (hn : PySem.W.findIn X.K (.ref C) "__ne__" = some (some (.builtin "object.__ne__"))) (hs : PySem.W.findIn X.K (.ref C) "__eq__" = some (some (.ref f))) (hf : PySem.W.isFn X.K (.ref f) = true)
    (F : FnOk X.prog X.w X.K X.mg X.base CX k f fd ps sp) (hr : Room (k + 1) X.A) (hb : Binds X.K fd ps []) (hx : ∀ (H : Hp) (s : Shared) (e : Value) (s' : Shared), CX X.stack H s E e s' → False) : OpR X (compareOp .NotEq) (rOwnNe C sp E) := by
  intro pn sg σ H x y v u Q I rx ry h
  obtain ⟨a, b, dx, dy, fs, gs, rfl, rfl, ha, hb', q⟩ := h
  cases rx
  cases ry
  obtain ⟨od, J⟩ := inst_of I ha
  obtain ⟨od', J'⟩ := inst_of I hb'
  refine cmpNe_K I.kIn J J' hm hn hs hf (by have := hr.units; omega) ?_
  have hl := F.len _ _ _ _ q
  have rv : Vals [V.ref a, V.ref b] [Value.ref a, Value.ref b] := .cons rfl (.cons rfl .nil)
  refine wpAny_call (codeAny_mono (F.run X.A.in1 X.stack sg H ⟨[.ref a, .ref b], []⟩ [.ref a, .ref b] [.ref a, .ref b] _ E hr.in1 I.env0.in1 (by
    have := hb sg [.ref a, .ref b] I.kIn (by simpa using hl)
    simpa using this) rv q) fun r s' hq => ?_)
  cases r with
  | error e => exact (hx _ _ _ _ hq).elim
  | ok fl =>
    cases fl with
    | ret w =>
      obtain ⟨z, H', I', rz, t, ez, ex⟩ := I.after hq
      subst ez
      cases (show w = Value.bool t from rz)
      exact ⟨t, rfl, .bl (!t), H', I', rfl, ex⟩
    | next => exact False.elim hq
    | brk => exact False.elim hq
    | cont => exact False.elim hq
end
end Gm
/-! A tuple times 0, 1 or more. -/
namespace Gm
open PySem PySem.Spec PyProof.Rows L2
theorem mul_one_tup (l : Addr) (items : Array Value) (n : Nat) (dd : Option Addr) (sl : Array (Option Value)) (u : Tok) :
    Meets (Builtin.«tuple.__mul__» ⟨[.ref l, .int 1 u], []⟩) (fun _ R s => s.heap.get? l = some { cls := .type "tuple", dict := dd, data := .seq items n, slots := sl } ∧ R (.ok (.ret (Value.ref l))) s) :=
  .of_wp fun prog w A R s h => by
    obtain ⟨h0, g, d, tk, os⟩ := s
    obtain ⟨hGet, h⟩ := h
    have f1 := AutoSeq1.idx_int
    have c0 : (decide ((1 : Int) < -(2 ^ 63)) || decide ((1 : Int) ≥ 2 ^ 63)) = false := by decide
    have c1 : (items.isEmpty || (1 : Int) == 1) = true := by simp
    wp_walk using AutoSeq1.wpAny_loadPart' hGet
    repeat (first
      | (refine wpAny_ite_false (decide_eq_false (by rw [c0]; exact Bool.false_ne_true)) ?_; wp_walk using AutoSeq1.wpAny_loadPart' hGet)
      | (refine wpAny_ite_true (decide_eq_true (by rw [c1])) ?_; wp_walk using AutoSeq1.wpAny_loadPart' hGet))
    exact ⟨_, rfl, h⟩
theorem mul_zero_tup (l : Addr) (items : Array Value) (n : Nat) (dd : Option Addr) (sl : Array (Option Value)) (u : Tok) (hi : items.isEmpty = false) :
    Meets (Builtin.«tuple.__mul__» ⟨[.ref l, .int 0 u], []⟩) (fun _ R s => s.heap.get? l = some { cls := .type "tuple", dict := dd, data := .seq items n, slots := sl } ∧
      R (.ok (.ret (Value.ref s.heap.objs.size))) { s with heap := s.heap.push { cls := Value.type "tuple", data := Data.seq #[] }, toks := s.toks }) :=
  .of_wp fun prog w A R s h => by
    obtain ⟨h0, g, d, tk, os⟩ := s
    obtain ⟨hGet, h⟩ := h
    have f1 := AutoSeq1.idx_int
    have c0 : (decide ((0 : Int) < -(2 ^ 63)) || decide ((0 : Int) ≥ 2 ^ 63)) = false := by decide
    have c1 : (items.isEmpty || (0 : Int) == 1) = false := by rw [hi]; decide
    have c2 : (decide ((0 : Int) ≤ 0) || items.isEmpty) = true := by simp
    wp_walk using AutoSeq1.wpAny_loadPart' hGet
    repeat (first
      | (refine wpAny_ite_false (decide_eq_false (by rw [c0]; exact Bool.false_ne_true)) ?_; wp_walk using AutoSeq1.wpAny_loadPart' hGet)
      | (refine wpAny_ite_false (decide_eq_false (by rw [c1]; exact Bool.false_ne_true)) ?_; wp_walk using AutoSeq1.wpAny_loadPart' hGet)
      | (refine wpAny_ite_true (decide_eq_true (by rw [c2])) ?_; wp_walk using AutoSeq1.wpAny_loadPart' hGet))
    exact ⟨_, rfl, h⟩
/-- xs * k for a tuple that is not empty, k from 0 on -/
def rRepA (K : Frag) : R2 := fun x y H Q => ∃ l k xs, x = .ref l ∧ y = .int k ∧ SqT K H l xs ∧ xs ≠ [] ∧ 0 ≤ k ∧ k ≤ 1000 ∧ xs.length ≤ 1000 ∧ (k = 1 → Q (.ref l) H) ∧ (k ≠ 1 → ∀ p, H p = none → Q (.ref p) (upd H p (.tup (List.replicate k.toNat xs).flatten)))
section
variable {X : Cx}
theorem op_repA : OpR X (binaryOp .Mult) (rRepA X.K) := by
  intro pn sh σ H x y v u Q I rx ry h
  obtain ⟨l, k, xs, rfl, rfl, hT, hne, h1, h2, hz, q1, q2⟩ := h
  by_cases k2 : 2 ≤ k
  · exact op_repT pn sh σ H _ _ _ _ Q I rx ry ⟨l, k, xs, rfl, rfl, hT, hne, k2, h2, hz, q2 (by omega)⟩
  cases rx
  obtain ⟨t, rfl⟩ := ry
  obtain ⟨vals, r, ⟨⟨cls, dd, data, sl⟩, ho, hc, n, hd⟩, hs⟩ := I.tuple hT
  simp only at hc hd
  subst hc hd
  have hi : vals.toArray.isEmpty = false := by
    cases vals with
    | nil => exact absurd (List.eq_nil_of_length_eq_zero r.length) hne
    | cons a b => rfl
  by_cases k1 : k = 1
  · subst k1
    refine wpAny_binaryOp_repeat_ref (T := "tuple") (U := "int") (by decide) ⟨_, ho, rfl⟩ (fun s' => typeIs_int s' 1 t) noFill_tuple_mul F.fills_int_mul F.slot_int_rmul repeat_tuple F.slot_int_index.lookup
      (call_meets F.slot_int_rmul (typeIs_int sh 1 t) F.entry_int_rmul (F.args_int_rmul_2 _ _) (int_rmul_tuple 1 t l vals.toArray n dd sl)
        ⟨ho, rfl, ⟨_, ho, rfl⟩, call_meets F.slot_tuple_mul ⟨_, ho, rfl⟩ F.entry_tuple_mul (F.args_tuple_mul_2 _ _) (mul_one_tup l vals.toArray n dd sl t) ⟨ho, ?_⟩⟩)
    exact ⟨.ref l, H, I, rfl, q1 rfl⟩
  · obtain rfl : k = 0 := by omega
    refine wpAny_binaryOp_repeat_ref (T := "tuple") (U := "int") (by decide) ⟨_, ho, rfl⟩ (fun s' => typeIs_int s' 0 t) noFill_tuple_mul F.fills_int_mul F.slot_int_rmul repeat_tuple F.slot_int_index.lookup
      (call_meets F.slot_int_rmul (typeIs_int sh 0 t) F.entry_int_rmul (F.args_int_rmul_2 _ _) (int_rmul_tuple 0 t l vals.toArray n dd sl)
        ⟨ho, rfl, ⟨_, ho, rfl⟩, call_meets F.slot_tuple_mul ⟨_, ho, rfl⟩ F.entry_tuple_mul (F.args_tuple_mul_2 _ _) (mul_zero_tup l vals.toArray n dd sl t hi) ⟨ho, ?_⟩⟩)
    have q := q2 (by decide) sh.heap.objs.size (I.hok.fresh (Nat.le_refl _))
    refine ⟨.ref sh.heap.objs.size, _, I.laid (t' := sh.toks) (o := .tup []) (fun b ob q => Heap.get?_push_of_some _ q) (Nat.le_refl _) ⟨Nat.zero_le _, [], .nil, IsTup.new _ _⟩, rfl, q⟩
theorem repAK (K : Frag) (hK : X.K = K) : OpR X (binaryOp .Mult) (rRepA K) := by subst hK; exact op_repA
end
end Gm
/-! Making an object, and an own operator, that may raise: what is raised is wished for at the caller's slots. -/
namespace Gm
open PySem PySem.Spec PyProof.Rows L2
section
variable {X : Cx} {C f : Addr} {fd : FuncData} {ps : List Str} {CX : CXT} {k : Nat} {sp : Sp} {E : L2.St → XK} {x : Str} {p pos : Pos} {e : Expr} {es : List Expr} {t : TA} {dvs : List V} {ds : List Value}
def tMakeS (C : Addr) (sp : Sp) (dvs : List V) (E : L2.St → XK) (t : TA) : TE := fun σ H Q => t σ H fun vs H1 => ∀ x dx, H1 x = none → H1 dx = none → dx ≠ x → sp (.ref x :: (vs ++ dvs)) (upd (upd H1 dx (.own x)) x (.ins C dx [])) (fun v H2 => v = .non ∧ Q (.ref x) H2) (E σ)
theorem pe_makeS (M : Mk X.K C f) (F : FnOk X.prog X.w X.K X.mg X.base CX k f fd ps sp) (hr : Room (k + 1) X.A) (hg : Gl X x) (hm : X.mg x = some (.ref C)) (hb : Binds X.K fd ps ds) (hd : Vals dvs ds) (hx : ∀ σ, PassesAt CX X σ (E σ))
    (ha : PA X (e :: es) t) (hdb : (x == ("__debug__" : Str)) = false := by decide) (he : starEach (e :: es) X.env = (false, eval e X.env) :: starEach es X.env := by rfl) (hpl : (backTo pos (starEach es X.env)).any (·.1) = false := by rfl) :
    PE X (.Call (.Name x p) (e :: es) [] pos) (tMakeS C sp dvs E t) := by
  refine ⟨fun pn sh σ H Q I h => ?_⟩
  refine wpAny_Call_Name_kw (ld_glob I hg hm ?_ hdb)
  refine PySem.W.callWith_K (h₀ := X.base) I.ok.mod.kin M.kp (thn (ha.run pos pn sh σ H _ I h) fun argv sA ⟨vs, H1, J, rel, q⟩ => ⟨J.kIn, ?_⟩) he hpl
  have q0 := q (sA.heap.objs.size + 1) sA.heap.objs.size (J.hok.fresh (Nat.le_succ _)) (J.hok.fresh (Nat.le_refl _)) (Nat.ne_of_lt (Nat.lt_succ_self _))
  have J2 := Inv.made (C := C) J
  have rel2 : Vals (V.ref (sA.heap.objs.size + 1) :: (vs ++ dvs)) (Value.ref (sA.heap.objs.size + 1) :: (argv ++ ds)) := .cons rfl (rel.append hd)
  have hl : (Value.ref (sA.heap.objs.size + 1) :: argv ++ ds).length = ps.length := by
    have el := rel2.length
    rw [F.len _ _ _ _ q0] at el
    exact el.symm
  have main := F.run _ X.stack _ _ ⟨Value.ref (sA.heap.objs.size + 1) :: argv, []⟩ (Value.ref (sA.heap.objs.size + 1) :: (argv ++ ds)) _ _ (E σ) (hr.make C argv []) (J2.env0.make C argv []) (hb _ (Value.ref (sA.heap.objs.size + 1) :: argv) J2.kIn hl) rel2 q0
  refine wpAny_call (make_map (f := f) J.kIn M.makes M.init (beq_iff_eq.mp M.fn) (codeAny_mono main fun r s' z => ?_))
  match r, z with
  | .error er, z => exact hx σ pn _ _ er s' J2 z
  | .ok (.ret u), z =>
    obtain ⟨v, H', J3, rv, ev, q3⟩ := J2.after z
    subst ev
    exact ⟨rv, ⟨V.ref (sA.heap.objs.size + 1), H', J3, rfl, q3⟩⟩
  | .ok .next, z => exact False.elim z
  | .ok .brk, z => exact False.elim z
  | .ok .cont, z => exact False.elim z
end
section
variable {X : Cx} {C f : Addr} {fd : FuncData} {ps : List Str} {CX : CXT} {k : Nat} {sp : Sp} {E : L2.St → XK} {a b : Expr} {ta tb : TE} {pos : Pos}
/-- a op b of one own class, where the def may raise -/
def tOpS (C : Addr) (sp : Sp) (E : L2.St → XK) (ta tb : TE) : TE := fun σ H Q => ta σ H fun x H1 => tb σ H1 fun y H2 => ∃ c d dx dy fs gs, x = .ref c ∧ y = .ref d ∧ H2 c = some (.ins C dx fs) ∧ H2 d = some (.ins C dy gs) ∧ sp [x, y] H2 Q (E σ)
theorem pe_opS {op : Operator} (hc : PySem.W.selfFirst X.K C = true) (hs : PySem.W.findIn X.K (.ref C) (PySem.dunder op.info.2) = some (some (.ref f))) (hf : PySem.W.isFn X.K (.ref f) = true)
    (F : FnOk X.prog X.w X.K X.mg X.base CX k f fd ps sp) (hr : Room k X.A) (hb : Binds X.K fd ps []) (hx : ∀ σ, PassesAt CX X σ (E σ)) (ha : PE X a ta) (hb' : PE X b tb) : PE X (.BinOp a op b pos) (tOpS C sp E ta tb) := by
  refine ⟨fun pn sh σ H Q I h => ?_⟩
  refine wpAny_BinOp (binT ha hb' I h fun v u s2 x y H2 I2 rx ry q => ?_)
  obtain ⟨c, d, dx, dy, fs, gs, rfl, rfl, hc1, hd1, q⟩ := q
  cases rx
  cases ry
  obtain ⟨od, J⟩ := inst_of I2 hc1
  obtain ⟨od', J'⟩ := inst_of I2 hd1
  obtain ⟨m, hF⟩ := I2.fr
  refine PySem.W.binop_K hF I2.ok.mod.kin J J'.type hc hs hf ?_
  refine wpAny_mono (run_fnS (us := [.ref c, .ref d]) (vs := [.ref c, .ref d]) F hr hb (hx σ) I2 (.cons rfl (.cons rfl .nil)) q) (fun w s' z => ?_) fun _ _ z => z
  obtain ⟨zR, HR, IR, relZ, postZ⟩ := z
  exact SlX.cmpback relZ ⟨zR, HR, IR, relZ, postZ⟩
end
end Gm
/-! list(zip(xs, ys)) of two tuples. -/
namespace Gm
open PySem PySem.Spec PyProof.Rows L2 RZ
abbrev ZipF (h : Heap) (z TI TO T0 : Addr) (f : Bool) : Prop :=
  h.get? z = some { cls := .type "zip", dict := none, data := .fields #[rawInt T0, .bool f, .bool false, .ref TI, .ref TO], slots := #[] }
section
variable {prog : Program} {w : World} {A : Around} {E : Value → Shared → Prop} {s : Shared}
theorem zip_busy {z TI TO T0 : Addr} {f : Bool} {oT : Obj} {Q : Bool → Shared → Prop} (hz : ZipF s.heap z TI TO T0 f) (hT : s.heap.get? T0 = some oT)
    (q : ∀ h', ZipF h' z TI TO T0 true → Heap.SameBut z s.heap h' → Q false { s with heap := h' }) : wpAny (model prog w) A (Builtin.SmallTypes.ownedTupleIsFree (.ref z)) Q E s := by
  unfold Builtin.SmallTypes.ownedTupleIsFree
  refine wpAny_bind (wpAny_field hz rfl (x := rawInt T0) rfl ?_)
  show wpAny _ _ (loadIfAlive ((T0 : Int)).toNat >>= _) _ _ _
  rw [Int.toNat_natCast]
  refine wpAny_bind (PySem.W.kdx_alive hT ?_)
  simp only [Option.isNone_some, Bool.false_eq_true, if_false]
  refine wpAny_bind (wpAny_field hz rfl (x := .bool f) rfl ?_)
  cases f with
  | false =>
    rw [if_pos (by decide)]
    refine wpAny_bind (wpAny_setField_rec hz (by simp) fun h1 hz1 hs1 => wpAny_pure (q h1 hz1 hs1))
  | true =>
    rw [if_neg (by decide)]
    exact wpAny_pure (q s.heap hz ⟨rfl, fun _ _ => rfl⟩)
theorem zipT_busy_item {z TI TO T0 i1 i2 l1 l2 : Addr} {f : Bool} {oT : Obj} {k1 k2 : Nat} {xs ys : Array Value} {x y : Value} {Q : Value → Shared → Prop} (D : ZipApart z TI TO i1 i2 l1 l2)
    (hz : ZipF s.heap z TI TO T0 f) (hT : s.heap.get? T0 = some oT) (hTI : IsPair s.heap TI (.ref i1) (.ref i2))
    (h1 : s.heap.IsTupleIter i1 l1 k1) (h2 : s.heap.IsTupleIter i2 l2 k2) (hl1 : s.heap.IsTuple l1 xs) (hl2 : s.heap.IsTuple l2 ys) (hx : xs[k1]? = some x) (hy : ys[k2]? = some y)
    (hQ : ∀ h', ZipF h' z TI TO T0 true → h'.IsTupleIter i1 l1 (k1 + 1) → h'.IsTupleIter i2 l2 (k2 + 1) → IsPair h' s.heap.objs.size x y → h'.objs.size = s.heap.objs.size + 1 →
      (∀ c o, c ≠ z → c ≠ i1 → c ≠ i2 → s.heap.get? c = some o → h'.get? c = some o) → Q (.ref s.heap.objs.size) { s with heap := h' }) :
    wpAny (model prog w) A (Builtin.«zip.__next__» ⟨[.ref z], []⟩) (fun fin s' => ∃ v, fin = .done (.ret v) ∧ Q v s') E s := by
  show wpAny _ _ (field (.ref z) 2 >>= _) _ _ _
  refine wpAny_bind (wpAny_field hz rfl (x := .bool false) rfl ?_)
  show wpAny _ _ (field (.ref z) 3 >>= _) _ _ _
  refine wpAny_bind (wpAny_field hz rfl (x := .ref TI) rfl ?_)
  refine wpAny_bind (wpAny_seqItems hTI rfl ?_)
  show wpAny _ _ (Builtin.SmallTypes.ownedTupleIsFree (.ref z) >>= _) _ _ _
  refine wpAny_bind (zip_busy hz hT fun g1 hz1 hs1 => ?_)
  simp only [Bool.false_eq_true, if_false]
  refine wpAny_bind ?_
  rw [← Array.forIn_toList]
  simp only [List.forIn_cons, List.forIn_nil]
  refine wpAny_bind (wpAny_bind (wpAny_holding ?_))
  show wpAny _ _ (Builtin.SmallTypes.nextOf (.ref i1) >>= _) _ _ _
  refine wpAny_bind (nextOf_tuple_item (h1.extBut hs1.extBut D.i1z) (hl1.extBut hs1.extBut D.l1z) hx fun g2 h12 hs2 => wpAny_pure ?_)
  refine wpAny_pure ?_
  dsimp only
  refine wpAny_bind (wpAny_bind (wpAny_holding ?_))
  show wpAny _ _ (Builtin.SmallTypes.nextOf (.ref i2) >>= _) _ _ _
  refine wpAny_bind (nextOf_tuple_item ((h2.extBut hs1.extBut D.i2z).extBut hs2.extBut D.i12.symm) ((hl2.extBut hs1.extBut D.l2z).extBut hs2.extBut D.l2i1) hy fun g3 h23 hs3 => wpAny_pure ?_)
  refine wpAny_pure ?_
  dsimp only
  refine wpAny_pure ?_
  dsimp only
  refine wpAny_bind (wpAny_newTuple ?_ (by show 2 ≤ sizeLine; decide))
  have hsz : g3.objs.size = s.heap.objs.size := by rw [hs3.1, hs2.1, hs1.1]
  have hz3 : ZipF g3 z TI TO T0 true := hs3.extBut _ _ D.i2z.symm (hs2.extBut _ _ D.i1z.symm hz1)
  have hk3 : ∀ c o, c ≠ z → c ≠ i1 → c ≠ i2 → s.heap.get? c = some o → g3.get? c = some o := fun c o c1 c2 c3 e => hs3.extBut _ _ c3 (hs2.extBut _ _ c2 (hs1.extBut _ _ c1 e))
  have h13 : g3.IsTupleIter i1 l1 (k1 + 1) := h12.extBut hs3.extBut D.i12
  refine wpAny_pure ⟨_, rfl, ?_⟩
  show Q (.ref g3.objs.size) _
  have hT3 : IsPair (g3.push { cls := .type "tuple", data := .seq #[x, y] }) g3.objs.size x y := Heap.get?_push_size _ rfl
  have up : ∀ c o, g3.get? c = some o → (g3.push { cls := .type "tuple", data := .seq #[x, y] }).get? c = some o := fun c o e => Heap.get?_push_of_some _ e
  rw [hsz] at hT3 ⊢
  exact hQ _ (up _ _ hz3) (h13.at fun o e => up _ o e) (h23.at fun o e => up _ o e) hT3 (by rw [Heap.size_push, hsz]) fun c o c1 c2 c3 e => up c o (hk3 c o c1 c2 c3 e)
theorem zipT_busy_end {z TI TO T0 i1 i2 l1 l2 : Addr} {f : Bool} {oT : Obj} {k1 : Nat} {xs : Array Value} {Q : Fin → Shared → Prop} (hh : A.handled = none) (D : ZipApart z TI TO i1 i2 l1 l2)
    (hz : ZipF s.heap z TI TO T0 f) (hT : s.heap.get? T0 = some oT) (hTI : IsPair s.heap TI (.ref i1) (.ref i2))
    (h1 : s.heap.IsTupleIter i1 l1 k1) (hl1 : s.heap.IsTuple l1 xs) (hend : xs[k1]? = none)
    (hE : ∀ h' e, (∀ c o, c ≠ z → c ≠ i1 → s.heap.get? c = some o → h'.get? c = some o) → (∃ o, h'.get? e = some o ∧ o.cls = .type "StopIteration") → E (.ref e) { s with heap := h' }) :
    wpAny (model prog w) A (Builtin.«zip.__next__» ⟨[.ref z], []⟩) Q E s := by
  show wpAny _ _ (field (.ref z) 2 >>= _) _ _ _
  refine wpAny_bind (wpAny_field hz rfl (x := .bool false) rfl ?_)
  show wpAny _ _ (field (.ref z) 3 >>= _) _ _ _
  refine wpAny_bind (wpAny_field hz rfl (x := .ref TI) rfl ?_)
  refine wpAny_bind (wpAny_seqItems hTI rfl ?_)
  show wpAny _ _ (Builtin.SmallTypes.ownedTupleIsFree (.ref z) >>= _) _ _ _
  refine wpAny_bind (zip_busy hz hT fun g1 hz1 hs1 => ?_)
  simp only [Bool.false_eq_true, if_false]
  refine wpAny_bind ?_
  rw [← Array.forIn_toList]
  simp only [List.forIn_cons, List.forIn_nil]
  refine wpAny_bind (wpAny_bind (wpAny_holding ?_))
  show wpAny _ _ (Builtin.SmallTypes.nextOf (.ref i1) >>= _) _ _ _
  refine wpAny_bind (nextOf_tuple_end hh (h1.extBut hs1.extBut D.i1z) (hl1.extBut hs1.extBut D.l1z) hend ?_)
  intro h' e ext he
  exact hE h' e (fun c o c1 c2 x => ext c o c2 (hs1.extBut c o c1 x)) he
/-- the zip's cells before its turn i -/
def ZS (h : Heap) (z TI TO i1 i2 l1 l2 : Addr) (i : Nat) : Prop :=
  IsPair h TI (.ref i1) (.ref i2) ∧ h.IsTupleIter i1 l1 i ∧ h.IsTupleIter i2 l2 i ∧ ((IsZip h z TI TO .none ∧ ∃ a b, IsPair h TO a b) ∨ ∃ T0 f oT, ZipF h z TI TO T0 f ∧ h.get? T0 = some oT)
theorem ZS.ty {z TI TO i1 i2 l1 l2 : Addr} {i : Nat} {h : Heap} (st : ZS h z TI TO i1 i2 l1 l2 i) : ∃ o, h.get? z = some o ∧ o.cls = .type "zip" := by
  obtain ⟨_, _, _, ⟨hz, _⟩ | ⟨_, _, _, hz, _⟩⟩ := st
  · exact ⟨_, hz, rfl⟩
  · exact ⟨_, hz, rfl⟩
theorem zip_item {z TI TO i1 i2 l1 l2 : Addr} {i : Nat} {xs ys : Array Value} {x y : Value} {Q : Option Value → Shared → Prop} (D : ZipApart z TI TO i1 i2 l1 l2) (st : ZS s.heap z TI TO i1 i2 l1 l2 i)
    (hl1 : s.heap.IsTuple l1 xs) (hl2 : s.heap.IsTuple l2 ys) (hx : xs[i]? = some x) (hy : ys[i]? = some y)
    (hQ : ∀ h', ZS h' z TI TO i1 i2 l1 l2 (i + 1) → IsPair h' s.heap.objs.size x y → h'.objs.size = s.heap.objs.size + 1 →
      (∀ c o, c ≠ z → c ≠ TO → c ≠ i1 → c ≠ i2 → s.heap.get? c = some o → h'.get? c = some o) → Q (some (.ref s.heap.objs.size)) { s with heap := h' }) :
    wpAny (model prog w) A (pyNext (.ref z)) Q E s := by
  have hTy : s.TypeIs (.ref z) "zip" := st.ty
  obtain ⟨hTI, h1, h2, ⟨hz, a, b, hTO⟩ | ⟨T0, f, oT, hz, hT0⟩⟩ := st
  · refine pyNext_zipT_item D hz hTI hTO h1 h2 hl1 hl2 hx hy fun h' z' TO' h1' h2' hT hsz hk => ?_
    exact hQ h' ⟨hk _ _ D.TIz D.TITO D.TIi1 D.TIi2 hTI, h1', h2', .inr ⟨s.heap.objs.size, false, _, z', hT⟩⟩ hT hsz hk
  · unfold pyNext
    refine wpAny_bind (wpAny_attempt (wpAny_callSpecial?_slot (name := Str.ofString "__next__") hTy F.slot_zip_next (wpAny_call_entry F.slot_zip_next hTy F.entry_zip_next
      (zipT_busy_item D hz hT0 hTI h1 h2 hl1 hl2 hx hy fun h' z' h1' h2' hT hsz hk => wpAny_pure ?_) (F.args_zip_next_1 _))))
    have h0 : T0 ≠ z ∨ T0 = z := (Decidable.em (T0 = z)).symm
    have alive : ∃ o', h'.get? T0 = some o' := by
      by_cases e1 : T0 = z
      · exact ⟨_, by rw [e1]; exact z'⟩
      · by_cases e2 : T0 = i1
        · obtain ⟨o, ho, _⟩ := h1'
          exact ⟨o, by rw [e2]; exact ho⟩
        · by_cases e3 : T0 = i2
          · obtain ⟨o, ho, _⟩ := h2'
            exact ⟨o, by rw [e3]; exact ho⟩
          · exact ⟨_, hk _ _ e1 e2 e3 hT0⟩
    obtain ⟨o', ho'⟩ := alive
    exact hQ h' ⟨hk _ _ D.TIz D.TIi1 D.TIi2 hTI, h1', h2', .inr ⟨T0, true, o', z', ho'⟩⟩ hT hsz fun c o c1 _ c3 c4 e => hk c o c1 c3 c4 e
theorem zip_done {z TI TO i1 i2 l1 l2 : Addr} {i : Nat} {xs ys : Array Value} {Q : Option Value → Shared → Prop} (hh : A.handled = none) (D : ZipApart z TI TO i1 i2 l1 l2) (st : ZS s.heap z TI TO i1 i2 l1 l2 i)
    (hl1 : s.heap.IsTuple l1 xs) (hl2 : s.heap.IsTuple l2 ys) (hend : xs[i]? = none)
    (hQ : ∀ h', (∀ c o, c ≠ z → c ≠ TO → c ≠ i1 → c ≠ i2 → s.heap.get? c = some o → h'.get? c = some o) → Q none { s with heap := h' }) :
    wpAny (model prog w) A (pyNext (.ref z)) Q E s := by
  have hTy : s.TypeIs (.ref z) "zip" := st.ty
  obtain ⟨hTI, h1, h2, ⟨hz, a, b, hTO⟩ | ⟨T0, f, oT, hz, hT0⟩⟩ := st
  · exact pyNext_zipT_end hh D hz hTI hTO h1 h2 hl1 hl2 (.inl hend) hQ
  · unfold pyNext
    refine wpAny_bind (wpAny_attempt (wpAny_callSpecial?_slot (name := Str.ofString "__next__") hTy F.slot_zip_next (wpAny_call_entry F.slot_zip_next hTy F.entry_zip_next
      (zipT_busy_end hh D hz hT0 hTI h1 hl1 hend fun h' e hk he => ?_) (F.args_zip_next_1 _))))
    obtain ⟨o, ho, hc⟩ := he
    refine wpAny_bind (wpAny_isInstance (T := "StopIteration") (b := true) ⟨o, ho, hc⟩ isSubtype_stop ?_)
    exact wpAny_pure (hQ _ fun c o c1 _ c3 _ e => hk c o c1 c3 e)
/-- the pairs that were made, each apart -/
structure Pairs (xs ys : Array Value) (lo : Addr) (h : Heap) (as : List Addr) : Prop where
  rise : as.Pairwise (· < ·)
  above : ∀ a ∈ as, lo ≤ a
  pairs : ∀ (j : Nat) (a : Addr), as[j]? = some a → ∃ x y, xs[j]? = some x ∧ ys[j]? = some y ∧ IsPair h a x y
theorem ZS.keep {z TI TO i1 i2 l1 l2 : Addr} {i : Nat} {h h' : Heap} {S : Addr} (st : ZS h z TI TO i1 i2 l1 l2 i) (hS : S ≠ z ∧ S ≠ TI ∧ S ≠ TO ∧ S ≠ i1 ∧ S ≠ i2) (hk : ∀ b o, b ≠ S → h.get? b = some o → h'.get? b = some o) (hSl : ∃ o, h'.get? S = some o) : ZS h' z TI TO i1 i2 l1 l2 i := by
  obtain ⟨n1, n2, n3, n4, n5⟩ := hS
  obtain ⟨hTI, h1, h2, q⟩ := st
  refine ⟨hk _ _ n2.symm hTI, h1.at fun o e => hk _ o n4.symm e, h2.at fun o e => hk _ o n5.symm e, ?_⟩
  rcases q with ⟨hz, a, b, hTO⟩ | ⟨T0, f, oT, hz, hT0⟩
  · exact .inl ⟨hk _ _ n1.symm hz, a, b, hk _ _ n3.symm hTO⟩
  · refine .inr ⟨T0, f, ?_⟩
    by_cases e : T0 = S
    · obtain ⟨o, ho⟩ := hSl
      exact ⟨o, hk _ _ n1.symm hz, by rw [e]; exact ho⟩
    · exact ⟨oT, hk _ _ n1.symm hz, hk _ _ e hT0⟩
theorem zip_loop {z TI TO i1 i2 l1 l2 S : Addr} {xs ys : Array Value} {R : Result → Shared → Prop} {lo : Addr} {h0 : Heap} (hh : A.handled = none) (D : ZipApart z TI TO i1 i2 l1 l2) (hS : S ≠ z ∧ S ≠ TI ∧ S ≠ TO ∧ S ≠ i1 ∧ S ≠ i2) (hSl : S ≠ l1 ∧ S ≠ l2) (hxy : xs.size = ys.size) (hn : xs.size ≤ sizeLine) (res : Value)
    (hlo : S < lo) (hfz : z < lo ∧ TO < lo ∧ i1 < lo ∧ i2 < lo)
    (hR : ∀ h' acc c as, (∀ b o, b ≠ S → b ≠ z → b ≠ TO → b ≠ i1 → b ≠ i2 → h0.get? b = some o → h'.get? b = some o) → h'.get? S = some { cls := .type "list", dict := none, data := .seq acc c, slots := #[] } → as.length = xs.size → Pairs xs ys lo h' as → acc.toList = as.map Value.ref → R (.ok (.ret res)) { s with heap := h' }) :
    ∀ (k i : Nat) (h : Heap) (c : Nat) (acc : Array Value) (as : List Addr), xs.size - i = k → i ≤ xs.size → ZS h z TI TO i1 i2 l1 l2 i → h.IsTuple l1 xs → h.IsTuple l2 ys → lo ≤ h.objs.size →
      (∀ b o, b ≠ S → b ≠ z → b ≠ TO → b ≠ i1 → b ≠ i2 → h0.get? b = some o → h.get? b = some o) → h.get? S = some { cls := .type "list", dict := none, data := .seq acc c, slots := #[] } → acc.toList = as.map Value.ref → as.length = i → Pairs xs ys lo h as →
      codeAny (model prog w) A (.builtin "list.extend.loop" ⟨[.ref S, .ref z, res], []⟩) R { s with heap := h } := by
  obtain ⟨n1, n2, n3, n4, n5⟩ := id hS
  intro k
  induction k with
  | zero =>
    intro i h c acc as hk hi st hl1 hl2 hls hkeep hSg hacc hal hG
    refine codeAny_builtin F.entry_extend_loop ?_
    rw [Around.under_plainId F.plain_extend_loop _]
    show wpAny _ A.in1 (pyNext (.ref z) >>= _) _ _ _
    refine wpAny_bind (zip_done (s := { s with heap := h }) (A := A.in1) hh D st hl1 hl2 (by simp; omega) fun h' he => ?_)
    have off : ∀ a ∈ as, a ≠ z ∧ a ≠ TO ∧ a ≠ i1 ∧ a ≠ i2 := fun a ha => by
      have d := hG.above a ha
      exact ⟨Nat.ne_of_gt (Nat.lt_of_lt_of_le hfz.1 d), Nat.ne_of_gt (Nat.lt_of_lt_of_le hfz.2.1 d), Nat.ne_of_gt (Nat.lt_of_lt_of_le hfz.2.2.1 d), Nat.ne_of_gt (Nat.lt_of_lt_of_le hfz.2.2.2 d)⟩
    refine wpAny_pure (hR h' acc c as (fun b o b1 b2 b3 b4 b5 e => he b o b2 b3 b4 b5 (hkeep b o b1 b2 b3 b4 b5 e)) (he S _ n1 n3 n4 n5 hSg) (by omega) ⟨hG.rise, hG.above, fun j a hj => ?_⟩ hacc)
    obtain ⟨x, y, e1, e2, e3⟩ := hG.pairs j a hj
    obtain ⟨q1, q2, q3, q4⟩ := off a (List.mem_of_getElem? hj)
    exact ⟨x, y, e1, e2, he a _ q1 q2 q3 q4 e3⟩
  | succ k ih =>
    intro i h c acc as hk hi st hl1 hl2 hls hkeep hSg hacc hal hG
    have hlt : i < xs.size := by omega
    have hsz : acc.size = i := by rw [← Array.length_toList, hacc, List.length_map, hal]
    refine codeAny_builtin F.entry_extend_loop ?_
    rw [Around.under_plainId F.plain_extend_loop _]
    show wpAny _ A.in1 (pyNext (.ref z) >>= _) _ _ _
    refine wpAny_bind (zip_item (s := { s with heap := h }) (A := A.in1) D st hl1 hl2 (Array.getElem?_eq_getElem hlt) (Array.getElem?_eq_getElem (by omega : i < ys.size)) fun h' st' hT hz1 hkp => ?_)
    dsimp only at hT hz1 hkp ⊢
    have hS' := hkp S _ n1 n3 n4 n5 hSg
    have up : ∀ b o, b ≠ S → h'.get? b = some o → (h'.update S (Obj.mapSeq (·.push (Value.ref h.objs.size)))).get? b = some o := fun b o hb e => (Heap.get?_update_other _ _ (Ne.symm hb)).trans e
    have hSlt : S < h.objs.size := Heap.lt_size hSg
    have hself := Heap.get?_update_self (Obj.mapSeq (·.push (Value.ref h.objs.size))) hS' rfl
    show wpAny _ A.in1 (updateSeq S (·.push (Value.ref h.objs.size)) >>= _) _ _ _
    refine wpAny_bind ?_
    have hTn : h.objs.size ≠ S := Nat.ne_of_gt hSlt
    have ls1 : l1 ≠ z ∧ l1 ≠ TO ∧ l1 ≠ i1 ∧ l1 ≠ i2 := ⟨D.l1z, D.l1TO, D.l1i1, D.l1i2⟩
    have ls2 : l2 ≠ z ∧ l2 ≠ TO ∧ l2 ≠ i1 ∧ l2 ≠ i2 := ⟨D.l2z, D.l2TO, D.l2i1, D.l2i2⟩
    have both : ∀ b o, b ≠ S → b ≠ z → b ≠ TO → b ≠ i1 → b ≠ i2 → h.get? b = some o → (h'.update S (Obj.mapSeq (·.push (Value.ref h.objs.size)))).get? b = some o := fun b o b1 b2 b3 b4 b5 e => up b o b1 (hkp b o b2 b3 b4 b5 e)
    have tup : ∀ {l : Addr} {us : Array Value}, l ≠ S → l ≠ z ∧ l ≠ TO ∧ l ≠ i1 ∧ l ≠ i2 → h.IsTuple l us → (h'.update S (Obj.mapSeq (·.push (Value.ref h.objs.size)))).IsTuple l us := fun n q ⟨o, ho, r⟩ => ⟨o, both _ o n q.1 q.2.1 q.2.2.1 q.2.2.2 ho, r⟩
    refine wpAny_updateSeq hS' rfl (wpAny_pure ⟨plainId_quiet F.plain_extend_loop _, ih (i + 1) _ _ (acc.push (Value.ref h.objs.size)) (as ++ [h.objs.size]) (by omega) hlt (st'.keep hS up ⟨_, hself⟩) (tup hSl.1.symm ls1 hl1) (tup hSl.2.symm ls2 hl2) ?_
      (fun b o b1 b2 b3 b4 b5 e => both b o b1 b2 b3 b4 b5 (hkeep b o b1 b2 b3 b4 b5 e)) hself (by rw [Array.toList_push, hacc, List.map_append]; rfl) (by rw [List.length_append, hal]; rfl) ⟨?_, ?_, ?_⟩⟩) (by rw [hsz]; omega) (by show (acc.push (Value.ref h.objs.size)).size ≤ sizeLine + 1; rw [Array.size_push, hsz]; omega)
    · refine Nat.le_trans hls ?_
      have e : (h'.update S (Obj.mapSeq (·.push (Value.ref h.objs.size)))).get? h.objs.size = _ := up _ _ hTn hT
      exact Nat.le_of_lt (Heap.lt_size e)
    · refine List.pairwise_append.mpr ⟨hG.rise, List.pairwise_singleton _ _, fun a ha b hb => ?_⟩
      rw [List.mem_singleton.mp hb]
      obtain ⟨j, hj⟩ := List.getElem?_of_mem ha
      obtain ⟨_, _, _, _, e3⟩ := hG.pairs j a hj
      exact Heap.lt_size e3
    · intro a ha
      rcases List.mem_append.mp ha with ha | ha
      · exact hG.above a ha
      · rw [List.mem_singleton.mp ha]
        exact hls
    · intro j b hj
      rcases Nat.lt_trichotomy j as.length with g1 | g1 | g1
      · rw [List.getElem?_append_left g1] at hj
        obtain ⟨x, y, e1, e2, e3⟩ := hG.pairs j b hj
        have d := hG.above b (List.mem_of_getElem? hj)
        exact ⟨x, y, e1, e2, both b _ (Nat.ne_of_gt (Nat.lt_of_lt_of_le hlo d)) (Nat.ne_of_gt (Nat.lt_of_lt_of_le hfz.1 d)) (Nat.ne_of_gt (Nat.lt_of_lt_of_le hfz.2.1 d)) (Nat.ne_of_gt (Nat.lt_of_lt_of_le hfz.2.2.1 d)) (Nat.ne_of_gt (Nat.lt_of_lt_of_le hfz.2.2.2 d)) e3⟩
      · subst g1
        have hb : h.objs.size = b := by simpa using hj
        subst hb
        exact ⟨xs[as.length]'(by omega), ys[as.length]'(by omega), Array.getElem?_eq_getElem _, Array.getElem?_eq_getElem _, by have := up _ _ hTn hT; subst hal; exact this⟩
      · have hnone : (as ++ [h.objs.size])[j]? = none := List.getElem?_eq_none (by rw [List.length_append, List.length_singleton]; omega)
        rw [hnone] at hj
        cases hj
theorem zip_len_none : typeLookup (.type "zip") "__len__" = pure none := am_miss_of_fast (by decide +kernel)
theorem zip_hint_none : typeLookup (.type "zip") "__length_hint__" = pure none := am_miss_of_fast (by decide +kernel)
theorem zip_extend {z TI TO i1 i2 l1 l2 S : Addr} {xs ys : Array Value} {R : Result → Shared → Prop} {lo : Addr} (hh : A.handled = none) (D : ZipApart z TI TO i1 i2 l1 l2) (hS : S ≠ z ∧ S ≠ TI ∧ S ≠ TO ∧ S ≠ i1 ∧ S ≠ i2) (hSl : S ≠ l1 ∧ S ≠ l2) (hxy : xs.size = ys.size) (hn : xs.size ≤ sizeLine) (res : Value)
    (hlo : S < lo) (hfz : z < lo ∧ TO < lo ∧ i1 < lo ∧ i2 < lo) (hle : lo ≤ s.heap.objs.size) (hz : IsZip s.heap z TI TO .none) (st : ZS s.heap z TI TO i1 i2 l1 l2 0) (hl1 : s.heap.IsTuple l1 xs) (hl2 : s.heap.IsTuple l2 ys) (c0 : Nat) (hS0 : s.heap.get? S = some { cls := .type "list", data := .seq #[] c0 })
    (hR : ∀ h' acc c as, (∀ b o, b ≠ S → b ≠ z → b ≠ TO → b ≠ i1 → b ≠ i2 → s.heap.get? b = some o → h'.get? b = some o) → h'.get? S = some { cls := .type "list", dict := none, data := .seq acc c, slots := #[] } → as.length = xs.size → Pairs xs ys lo h' as → acc.toList = as.map Value.ref → R (.ok (.ret res)) { s with heap := h' }) :
    wpAny (model prog w) A.in1 (Builtin.List.listExtendWith (.ref S) (.ref z) res)
      (fun fin s' => match fin with | .done f => R (.ok f) s' | .again c' => c'.quiet = true ∧ codeAny (model prog w) A c' R s') (fun e s' => R (.error e) s') s := by
  have hTy : s.TypeIs (.ref z) "zip" := st.ty
  unfold Builtin.List.listExtendWith
  refine wpAny_bind (wpAny_typeOf (T := "zip") hTy ?_)
  have g1 : Builtin.List.listSameRef (.ref S) (.ref z) = false := by simp [Builtin.List.listSameRef, hS.1]
  have g2 : (Value.type "zip" == Value.type "list") = false := by decide
  have g3 : (Value.type "zip" == Value.type "tuple") = false := by decide
  simp only [g1, g2, g3, Bool.or_false, Bool.false_eq_true, if_false]
  refine wpAny_bind (wpAny_pyIter_zip hz ?_)
  refine wpAny_bind (wpAny_holding ?_)
  unfold Builtin.List.listLengthHint
  refine wpAny_bind (wpAny_specialOf hTy zip_len_none ?_)
  show wpAny _ _ (specialOf (Value.ref z) (Str.ofString "__length_hint__") >>= _) _ _ _
  refine wpAny_bind (wpAny_specialOf hTy zip_hint_none ?_)
  refine wpAny_pure ?_
  show wpAny _ _ (rule "list.extend.makes-room" >>= fun _ => Builtin.List.listTouch (.ref S) >>= fun _ => again (.builtin "list.extend.loop" ⟨[.ref S, .ref z, res], []⟩)) _ _ _
  refine wpAny_bind (wpAny_rule ?_)
  refine wpAny_bind ?_
  show wpAny _ _ (updateSeq S (·.push .none) >>= fun _ => updateSeq S (·.pop)) _ _ _
  refine wpAny_bind (wpAny_updateSeq hS0 rfl ?_)
  have hS2 := Heap.get?_update_self (Obj.mapSeq (·.push Value.none)) hS0 rfl
  refine wpAny_updateSeq (hz := by seq_fits) hS2 rfl ?_
  have hS3 := Heap.get?_update_self (Obj.mapSeq (·.pop)) hS2 rfl
  have oth : ∀ b o, b ≠ S → s.heap.get? b = some o → ((s.heap.update S (Obj.mapSeq (·.push Value.none))).update S (Obj.mapSeq (·.pop))).get? b = some o := fun b o hb e => (Heap.get?_update_other _ _ (Ne.symm hb)).trans ((Heap.get?_update_other _ _ (Ne.symm hb)).trans e)
  refine wpAny_pure ⟨plainId_quiet F.plain_extend_loop _, zip_loop (s := s) (h0 := s.heap) (lo := lo) hh D hS hSl hxy hn res hlo hfz hR xs.size 0 _ _ #[] [] (Nat.sub_zero _) (Nat.zero_le _) (st.keep hS oth ⟨_, hS3⟩) ?_ ?_ ?_ (fun b o b1 _ _ _ _ e => oth b o b1 e) hS3 rfl rfl ⟨List.Pairwise.nil, (fun _ ha => nomatch ha), fun j a hj => by simp at hj⟩⟩
  · obtain ⟨o, ho, r⟩ := hl1
    exact ⟨o, oth _ _ hSl.1.symm ho, r⟩
  · obtain ⟨o, ho, r⟩ := hl2
    exact ⟨o, oth _ _ hSl.2.symm ho, r⟩
  · have e : ((s.heap.update S (Obj.mapSeq (·.push Value.none))).update S (Obj.mapSeq (·.pop))).objs.size = s.heap.objs.size := by
      first
        | rw [Heap.size_update, Heap.size_update]
        | simp [Heap.update]
    rw [e]
    exact hle
/-- list(z) for such a zip -/
theorem zip_list {z TI TO i1 i2 l1 l2 : Addr} {xs ys : Array Value} {Q : Value → Shared → Prop} (hh : A.handled = none) (D : ZipApart z TI TO i1 i2 l1 l2) (hxy : xs.size = ys.size) (hn : xs.size ≤ sizeLine)
    (hfz : z < s.heap.objs.size ∧ TI < s.heap.objs.size ∧ TO < s.heap.objs.size ∧ i1 < s.heap.objs.size ∧ i2 < s.heap.objs.size) (hz : IsZip s.heap z TI TO .none) (st : ZS s.heap z TI TO i1 i2 l1 l2 0) (hl1 : s.heap.IsTuple l1 xs) (hl2 : s.heap.IsTuple l2 ys)
    (hQ : ∀ h' acc c as, (∀ b o, b ≠ z → b ≠ TO → b ≠ i1 → b ≠ i2 → s.heap.get? b = some o → h'.get? b = some o) → h'.get? s.heap.objs.size = some { cls := .type "list", dict := none, data := .seq acc c, slots := #[] } → as.length = xs.size → Pairs xs ys (s.heap.objs.size + 1) h' as → acc.toList = as.map Value.ref → Q (.ref s.heap.objs.size) { s with heap := h' }) :
    wpAny (model prog w) A (call (.type "list") [.ref z]) Q E s := by
  refine callType_codes (Q₁ := fun obj s1 => obj = .ref s.heap.objs.size ∧ s1 = { s with heap := s.heap.push { cls := .type "list", data := .seq #[] } }) F.called_list (F.typeCall_list_1 _) F.entry_list_init (code_list_new _ ⟨rfl, rfl⟩) fun obj s1 hs1 => ?_
  obtain ⟨rfl, rfl⟩ := hs1
  have hS : (s.heap.push { cls := .type "list", data := .seq #[] }).get? s.heap.objs.size = some { cls := .type "list", data := .seq #[] } := Heap.get?_push_size _ rfl
  refine ⟨⟨_, hS, rfl⟩, F.args_list_init_2 _ _, ?_⟩
  show wpAny _ _ (do let old ← Builtin.List.listItems (.ref s.heap.objs.size); Builtin.List.listUpdate (.ref s.heap.objs.size) (fun _ => #[]); letGo old.toList.reverse; Builtin.List.listExtendWith (.ref s.heap.objs.size) (.ref z) .none) _ _ _
  refine wpAny_bind ?_
  unfold Builtin.List.listItems
  refine wpAny_bind (wpAny_seqItems hS rfl (wpAny_pure ?_))
  show wpAny _ _ (updateSeq s.heap.objs.size (fun _ => #[]) >>= fun _ => letGo (#[] : Array Value).toList.reverse >>= fun _ => Builtin.List.listExtendWith (.ref s.heap.objs.size) (.ref z) .none) _ _ _
  refine wpAny_bind (wpAny_updateSeq hS rfl ?_)
  have hS2 := Heap.get?_update_self (Obj.mapSeq (fun _ => (#[] : Array Value))) hS rfl
  have oth : ∀ b o, s.heap.get? b = some o → ((s.heap.push { cls := .type "list", data := .seq #[] }).update s.heap.objs.size (Obj.mapSeq (fun _ => (#[] : Array Value)))).get? b = some o :=
    fun b o e => (Heap.get?_update_other _ _ (Nat.ne_of_gt (Heap.lt_size e))).trans (Heap.get?_push_of_some _ e)
  refine wpAny_bind (wpAny_letGo ?_)
  have hsz2 : ((s.heap.push { cls := .type "list", data := .seq #[] }).update s.heap.objs.size (Obj.mapSeq (fun _ => (#[] : Array Value)))).objs.size = s.heap.objs.size + 1 := by rw [Heap.size_update, Heap.size_push]
  generalize hH2 : (s.heap.push { cls := .type "list", data := .seq #[] }).update s.heap.objs.size (Obj.mapSeq (fun _ => (#[] : Array Value))) = H2 at hS2 oth hsz2 ⊢
  have lt1 : s.heap.objs.size < s.heap.objs.size + 1 := Nat.lt_succ_self _
  have hl1' : l1 < s.heap.objs.size := by
    obtain ⟨o, ho, _⟩ := hl1
    exact Heap.lt_size ho
  have hl2' : l2 < s.heap.objs.size := by
    obtain ⟨o, ho, _⟩ := hl2
    exact Heap.lt_size ho
  obtain ⟨f1, f2, f3, f4, f5⟩ := hfz
  have nS : s.heap.objs.size ≠ z ∧ s.heap.objs.size ≠ TI ∧ s.heap.objs.size ≠ TO ∧ s.heap.objs.size ≠ i1 ∧ s.heap.objs.size ≠ i2 := ⟨Nat.ne_of_gt f1, Nat.ne_of_gt f2, Nat.ne_of_gt f3, Nat.ne_of_gt f4, Nat.ne_of_gt f5⟩
  refine zip_extend (s := { s with heap := H2 }) (A := A.in1) (lo := s.heap.objs.size + 1) (l1 := l1) (l2 := l2) (xs := xs) (ys := ys) hh D nS ⟨Nat.ne_of_gt hl1', Nat.ne_of_gt hl2'⟩ hxy hn .none lt1 ⟨Nat.lt_succ_of_lt f1, Nat.lt_succ_of_lt f3, Nat.lt_succ_of_lt f4, Nat.lt_succ_of_lt f5⟩ (Nat.le_of_eq hsz2.symm) (oth _ _ hz) (st.keep nS (fun b o _ e => oth b o e) ⟨_, hS2⟩) ?_ ?_ _ hS2 ?_
  · obtain ⟨o, ho, r⟩ := hl1
    exact ⟨o, oth _ _ ho, r⟩
  · obtain ⟨o, ho, r⟩ := hl2
    exact ⟨o, oth _ _ ho, r⟩
  · intro h' acc c as hk hSg hl hP hacc
    exact ⟨rfl, hQ h' acc c as (fun b o b2 b3 b4 b5 e => hk b o (Nat.ne_of_lt (Heap.lt_size e)) b2 b3 b4 b5 (oth b o e)) hSg hl hP hacc⟩
end
end Gm
/-! list(zip(xs, ys)) of two tuples, as a rule. -/
namespace Gm
open PySem PySem.Spec PyProof.Rows L2 RZ
/-- pairs told at their addresses -/
def putP (H : Hp) : List Addr → List (V × V) → Hp
  | a :: as, p :: ps => upd (putP H as ps) a (.tup [p.1, p.2])
  | _, _ => H
theorem putP_off {H : Hp} {b : Addr} : ∀ {as : List Addr} {ps : List (V × V)}, b ∉ as → putP H as ps b = H b
  | [], _, _ => by
    unfold putP
    rfl
  | _ :: _, [], _ => rfl
  | a :: as, p :: ps, h => by
    show upd (putP H as ps) a (.tup [p.1, p.2]) b = H b
    rw [upd_ne (fun e => h (by rw [e]; exact List.mem_cons_self ..)), putP_off fun z => h (List.mem_cons_of_mem _ z)]
theorem putP_at {H : Hp} : ∀ {as : List Addr} {ps : List (V × V)} {j : Nat} {a : Addr} {p : V × V}, as.Nodup → as[j]? = some a → ps[j]? = some p → putP H as ps a = some (.tup [p.1, p.2])
  | b :: as, q :: ps, 0, a, p, _, e1, e2 => by
    cases Option.some.inj e1
    cases Option.some.inj e2
    exact upd_same
  | b :: as, q :: ps, j + 1, a, p, nd, e1, e2 => by
    have e1' : as[j]? = some a := e1
    have nd' := List.nodup_cons.mp nd
    show upd (putP H as ps) b (.tup [q.1, q.2]) a = _
    rw [upd_ne (fun e => nd'.1 (by rw [← e]; exact List.mem_of_getElem? e1'))]
    exact putP_at nd'.2 e1' e2
def tListZip (K : Frag) (tas : TA) : TE := fun σ H Q => tas σ H fun vs H1 => ∃ a b xs ys, vs = [.ref a, .ref b] ∧ SqT K H1 a xs ∧ SqT K H1 b ys ∧ xs.length = ys.length ∧
  ∀ (H' : Hp) (p : Addr) (ts : List Addr), Same H1 H' → H1 p = none → p ∉ ts → H' p = some (.lst (ts.map V.ref)) → ts.length = xs.length → (∀ (j : Nat) (t : Addr), ts[j]? = some t → ∃ x y, xs[j]? = some x ∧ ys[j]? = some y ∧ H' t = some (.tup [x, y])) → Q (.ref p) H'
section
variable {X : Cx} {pn : List (Addr × Obj)} {σ : L2.St} {H : Hp} {s : Shared}
theorem refs_vals : ∀ as : List Addr, Vals (as.map V.ref) (as.map Value.ref)
  | [] => .nil
  | _ :: as => .cons rfl (refs_vals as)
theorem pairs_laid {h' : Heap} {xs ys : List V} {us ws : List Value} {acc : Array Value} {c : Nat} {as : List Addr} {S lo : Addr} (I : Inv X pn σ H s) (hz : xs.length ≤ sizeLine) (hxy : xs.length = ys.length) (rx : Vals xs us) (ry : Vals ys ws)
    (hk : ∀ b o, s.heap.get? b = some o → h'.get? b = some o) (hSz : s.heap.objs.size ≤ S) (hlo : S < lo) (hS : h'.get? S = some { cls := .type "list", dict := none, data := .seq acc c, slots := #[] }) (hl : as.length = xs.length) (hP : Pairs us.toArray ws.toArray lo h' as) (hacc : acc.toList = as.map Value.ref) :
    ∃ H' : Hp, Same H H' ∧ H S = none ∧ S ∉ as ∧ H' S = some (.lst (as.map V.ref)) ∧ (∀ (j : Nat) (t : Addr), as[j]? = some t → ∃ x y, xs[j]? = some x ∧ ys[j]? = some y ∧ H' t = some (.tup [x, y])) ∧ Inv X pn σ H' { s with heap := h' } := by
  have hSn : S ∉ as := fun z => absurd (hP.above _ z) (Nat.not_le_of_gt hlo)
  have nd : as.Nodup := List.Pairwise.imp (fun {a b} (h : a < b) => Nat.ne_of_lt h) hP.rise
  have big : ∀ t ∈ as, s.heap.objs.size ≤ t := fun t ht => Nat.le_trans hSz (Nat.le_of_lt (Nat.lt_of_lt_of_le hlo (hP.above t ht)))
  have new : ∀ t ∈ as, H t = none := fun t ht => I.hok.fresh (big t ht)
  have newS : H S = none := I.hok.fresh hSz
  have items : ∀ {j : Nat} {t : Addr}, as[j]? = some t → ∃ x y, xs[j]? = some x ∧ ys[j]? = some y ∧ (xs.zip ys)[j]? = some (x, y) := fun {j t} e => by
    have hj : j < as.length := (List.getElem?_eq_some_iff.mp e).1
    refine ⟨xs[j]'(by omega), ys[j]'(by omega), List.getElem?_eq_getElem _, List.getElem?_eq_getElem _, ?_⟩
    rw [List.getElem?_zip_eq_some]
    exact ⟨List.getElem?_eq_getElem _, List.getElem?_eq_getElem _⟩
  have off : ∀ b, b ∉ as → b ≠ S → putP (upd H S (.lst (as.map V.ref))) as (xs.zip ys) b = H b := fun b h1 h2 => by rw [putP_off h1, upd_ne h2]
  have low : ∀ b o, s.heap.get? b = some o → b ∉ as ∧ b ≠ S := fun b o e => ⟨fun z => absurd (Heap.lt_size e) (Nat.not_lt.mpr (big b z)), fun z => absurd (Heap.lt_size e) (Nat.not_lt.mpr (by rw [z]; exact hSz))⟩
  have kp : ∀ b u, H b = some u → (putP (upd H S (.lst (as.map V.ref))) as (xs.zip ys)) b = some u := fun b u e => by
    rw [off b (fun z => by rw [new b z] at e; cases e) (fun z => by rw [z, newS] at e; cases e)]
    exact e
  have eS : putP (upd H S (.lst (as.map V.ref))) as (xs.zip ys) S = some (.lst (as.map V.ref)) := by rw [putP_off hSn, upd_same]
  refine ⟨putP (upd H S (.lst (as.map V.ref))) as (xs.zip ys), kp, newS, hSn, eS, fun j t e => ?_, ?_⟩
  · obtain ⟨x, y, e1, e2, e3⟩ := items e
    exact ⟨x, y, e1, e2, putP_at nd e e3⟩
  refine I.call' (ch := []) rfl ⟨fun b o q _ _ _ => hk b o q, fun b o q _ _ _ => ⟨o.slots, hk b o q⟩, fun b o q n _ => ?_, fun b o q _ => ⟨o, hk b o q⟩, fun b xs q => kp b _ q, fun b o u q => kp b _ q, fun b ps q => ⟨#[], by rw [kp b _ q]; simp⟩⟩ (fun b u q => ?_) I.bare fun b z => by simp at z
  · obtain ⟨z1, z2⟩ := low b o q
    rw [off b z1 z2]
    exact n
  · by_cases hb : b ∈ as
    · obtain ⟨j, ej⟩ := List.getElem?_of_mem hb
      obtain ⟨x, y, e1, e2, e3⟩ := items ej
      rw [putP_at nd ej e3] at q
      cases q
      obtain ⟨x', y', f1, f2, f3⟩ := hP.pairs j b ej
      obtain ⟨u1, g1, r1⟩ := rx.get e1
      obtain ⟨u2, g2, r2⟩ := ry.get e2
      have f1' : us[j]? = some x' := by simpa using f1
      have f2' : ws[j]? = some y' := by simpa using f2
      rw [g1] at f1'
      rw [g2] at f2'
      cases f1'
      cases f2'
      exact ⟨by show 2 ≤ sizeLine; decide, [_, _], .cons r1 (.cons r2 .nil), ⟨_, f3, rfl, _, rfl⟩⟩
    · by_cases hb2 : b = S
      · rw [hb2] at q ⊢
        rw [eS] at q
        cases q
        refine ⟨by rw [List.length_map]; omega, acc.toList, c, by rw [hacc]; exact refs_vals as, ?_⟩
        rw [Array.toArray_toList]
        exact hS
      · rw [off b hb hb2] at q
        exact (I.hok b u q).stay (fun d v _ y => hk d v y) (fun d y => kp d _ y) fun d xs y => kp d _ y
end
section
variable {X : Cx} {e e2 : Expr} {tas : TA} {p q pos zpos : Pos}
/-- list(zip(e, e2)) -/
theorem pe_listZip (hc : X.calm = true) (hg : Gl X "list") (hm : X.mg "list" = none) (hgz : Gl X "zip") (hmz : X.mg "zip" = none) (ha : PA X [e, e2] tas)
    (hs : starEach [.Call (.Name "zip" q) [e, e2] [] zpos] X.env = (false, eval (.Call (.Name "zip" q) [e, e2] [] zpos) X.env) :: starEach [] X.env := by rfl)
    (hz : starEach [e, e2] X.env = (false, eval e X.env) :: starEach [e2] X.env := by rfl) (hpl : (backTo zpos (starEach [e2] X.env)).any (·.1) = false := by rfl) :
    PE X (.Call (.Name "list" p) [.Call (.Name "zip" q) [e, e2] [] zpos] [] pos) (tListZip X.K tas) := by
  refine ⟨fun pn sh σ H Q I h => ?_⟩
  have hv : bootBuiltins "list" = some (.type "list") := by decide +kernel
  refine wpAny_Call_Name_kw (ld_blt I hg hm hv ?_)
  refine PyProof.Rows.callWith_type1 ?_ hs rfl
  rw [hs]
  show wpAny _ _ (spliced ((false, eval (.Call (.Name "zip" q) [e, e2] [] zpos) X.env) :: backTo pos (starEach [] X.env))) _ _ sh
  refine Calls.spliced_cons ?_
  refine Call_ (ld_blt I hgz hmz PyProof.Rows.boot_zip (PyProof.Rows.callWith_type1 (thn (ha.run zpos pn sh σ H _ I h) fun argv sA ⟨vs, H1, J, rel, post⟩ => ?_) hz hpl))
  obtain ⟨a, b, xs, ys, ex, hqx, hqy, hxy, post⟩ := post
  subst ex
  cases rel with
  | cons rel1 rr =>
    cases rr with
    | cons rel2 rr =>
      cases rr
      cases rel1
      cases rel2
      obtain ⟨us, rvx, p1, hlx⟩ := J.tuple hqx
      obtain ⟨ws, rvy, p2, hly⟩ := J.tuple hqy
      obtain ⟨o1, ho1, _⟩ := id p1
      obtain ⟨o2, ho2, _⟩ := id p2
      refine call_zipT (show sA.heap.IsTuple a us.toArray from p1) (show sA.heap.IsTuple b ws.toArray from p2) fun h' hzz hTI hTO h1 h2 hsz hk => ?_
      refine Calls.spliced_nil ?_
      have lx := rvx.length
      have ly := rvy.length
      have ap := PySem.W.ktu_apart sA.heap.objs.size a b (Heap.lt_size ho1) (Heap.lt_size ho2)
      have low : ∀ c o, sA.heap.get? c = some o → c ≠ sA.heap.objs.size + 4 ∧ c ≠ sA.heap.objs.size + 3 ∧ c ≠ sA.heap.objs.size ∧ c ≠ sA.heap.objs.size + 1 := fun c o e => by
        have d : c < sA.heap.objs.size := Heap.lt_size e
        exact ⟨Nat.ne_of_lt (Nat.lt_add_right 4 d), Nat.ne_of_lt (Nat.lt_add_right 3 d), Nat.ne_of_lt d, Nat.ne_of_lt (Nat.lt_add_right 1 d)⟩
      have five : ∀ k : Nat, k < 5 → sA.heap.objs.size + k < h'.objs.size := fun k hk5 => by
        rw [hsz]
        exact Nat.add_lt_add_left hk5 _
      refine zip_list (s := { sA with heap := h' }) (xs := us.toArray) (ys := ws.toArray) (J.ok.hd hc) ap (by simp; omega) (by rw [List.size_toArray, ← lx]; exact hlx) ⟨five 4 (by decide), five 2 (by decide), five 3 (by decide), five 0 (by decide), five 1 (by decide)⟩ hzz ⟨hTI, h1, h2, .inl ⟨hzz, _, _, hTO⟩⟩ ?_ ?_ fun h3 acc c as hk3 hS3 hl3 hP3 hacc3 => ?_
      · exact (show sA.heap.IsTuple a us.toArray from p1).imp fun o r => ⟨hk _ _ r.1, r.2⟩
      · exact (show sA.heap.IsTuple b ws.toArray from p2).imp fun o r => ⟨hk _ _ r.1, r.2⟩
      · have hk4 : ∀ b o, sA.heap.get? b = some o → h3.get? b = some o := fun b o e => by
          obtain ⟨q1, q2, q3, q4⟩ := low b o e
          exact hk3 b o q1 q2 q3 q4 (hk b o e)
        obtain ⟨H', k1, k2, k3, k4, k5, J3⟩ := pairs_laid (S := h'.objs.size) (lo := h'.objs.size + 1) J hlx hxy rvx rvy hk4 (Nat.le_of_lt (five 0 (by decide))) (Nat.lt_succ_self _) hS3 (by rw [hl3, List.size_toArray, lx]) hP3 hacc3
        exact ⟨.ref h'.objs.size, H', J3, rfl, post H' _ as k1 k2 k3 k4 (by rw [hl3, List.size_toArray, lx]) k5⟩
end
end Gm
/-! An own class walked, whose __iter__ answers iter of a tuple. -/
namespace Gm
open PySem PySem.Spec PyProof.Rows L2
/-- what a def promises where the heap has at least n places -/
structure FnAt (n : Nat) (P : Program) (w : World) (K : PySem.W.Frag) (mg : Str → Option Value) (base : Heap) (k : Nat) (f : Addr) (fd : FuncData) (ps : List Str) (sp : Sp) : Prop where
  len : ∀ vs H Q E, sp vs H Q E → vs.length = ps.length
  run : ∀ (A : Around) (outer : List Env) (s : Shared) (H : Hp) (args : Args) (us : List Value) (vs : List V) (Q : VK) (E : XK), n ≤ s.heap.objs.size → Room k A → Env0 P w K mg base A outer s H → BindsTo s fd args (ps.zip us) → Vals vs us → sp vs H Q E →
    codeAny (model P w) A (.call (.ref f) args) (CR CX0 outer P w H s Q E) s
theorem fn_at {n : Nat} {P : Program} {w : World} {K : PySem.W.Frag} {mg : Str → Option Value} {base : Heap} {k : Nat} {x qual : Str} {st : Stmt} {f : Addr} {fd : FuncData} {N ps : List Str} {sp : Sp} (F : Fun K x qual st f fd) (S : FnScope N ps (defScope st))
    (len : ∀ vs H Q E, sp vs H Q E → vs.length = ps.length)
    (body : ∀ (cdv : Value) (A : Around) (outer : List Env) (s : Shared) (H : Hp) (vs : List V) (Q : VK) (E : XK), n ≤ s.heap.objs.size → Room k (A.deeper (envOfC qual (defScope st) s.heap.objs.size f cdv)) → sp vs H Q E →
      ∃ t, PSs (cxOf CX0 P w K mg base N qual (defScope st) f cdv A outer s H E) (defBody st) t ∧ t { nx := fun _ H' => Q .non H', rt := Q } (start N vs) H) : FnAt n P w K mg base (k + 1) f fd ps sp := by
  obtain ⟨oc, od, kV, doc, pm, an, cdv, ct, osl, rfl, lk, hcd⟩ := F.ex
  refine ⟨len, fun A outer s H args us vs Q E hn hr e0 hb r q => ?_⟩
  have hl := len _ _ _ _ q
  have XK := e0.mod.kin.keeps fun b o e => (e0.bs b o e).1
  have lim := e0.mod.nolimit.keeps fun b o e => (e0.bs b o e).1
  have kinds : ∀ y ∈ ps.zip us, (defScope st).names.lookup y.1 = some .local ∨ ((defScope st).names.lookup y.1 = some .cell ∧ ((cellsFrom (s.heap.objs.size + 1) (defScope st).names []).lookup y.1).isSome = true) := fun ⟨m, v⟩ hy => (S.par m (List.of_mem_zip hy).1).imp id fun c => ⟨c, PySem.W.cellsFrom_some _ _ _ (.inl c)⟩
  refine codeAny_call_function hr.depth (XK _ _ lk) rfl S.co S.gen rfl (PySem.W.codeRec_of XK hcd) (hb _ _ _ _ ?_)
  refine wpAny_newFunctionEnv_cells S.kind kinds fun env he s1 xc => ?_
  subst he
  refine ⟨lim.keeps xc.toInCall.keep, codeAny_func ?_⟩
  obtain ⟨t, ht, hq⟩ := body cdv A outer s H vs Q E hn (hr.deeper _) q
  have I0 := inv_start (CX := CX0) (E := E) S hr.hd e0 hl r xc
  refine wpAny_mono (ht.run [] s1 (start N vs) H _ I0 hq) (fun fl s' z => ?_) fun e s' z => z
  match fl, z with
  | .ret u, z =>
    obtain ⟨v, σ', H', J, rv, q⟩ := z
    exact ⟨v, H', J.os, J.bare, J.base, J.hok, rv, q⟩
  | .next, z =>
    obtain ⟨σ', H', J, q⟩ := z
    exact ⟨V.non, H', J.os, J.bare, J.base, J.hok, rfl, q⟩
  | .brk, z =>
    obtain ⟨_, _, _, q⟩ := z
    exact False.elim q
  | .cont, z =>
    obtain ⟨_, _, _, q⟩ := z
    exact False.elim q
/-! ### iter of a tuple -/
def ItT (l it : Addr) : HO := .ext fun h => h.get? it = some { cls := .type "tuple_iterator", data := .fields #[.ref l, .int 0 0] }
theorem itT_ok {P : Program} {w : World} {H : Hp} {h : Heap} {l it : Addr} (e : h.get? it = some { cls := .type "tuple_iterator", data := .fields #[.ref l, .int 0 0] }) : ObjOk P w H h it (ItT l it) := ⟨e, ⟨_, e⟩, fun h1 h2 q k => k _ q⟩
def rIterT (K : PySem.W.Frag) (n : Nat) : List V → Hp → VK → Prop := fun xs H Q => ∃ (l : Addr) (zs : List V), xs = [.ref l] ∧ SqT K H l zs ∧ ∀ it, H it = none → n ≤ it → Q (.ref it) (upd H it (ItT l it))
section
variable {X : Cx}
theorem call_iterT : CallR X (.builtin "iter") (rIterT X.K X.s_0.heap.objs.size) := by
  intro pn sh σ H xs argv Q I r h
  obtain ⟨l, zs, rfl, hq, q⟩ := h
  obtain ⟨u, rfl, ru⟩ := vals1 r
  cases ru
  obtain ⟨vals, rv, pl, hz⟩ := I.tuple hq
  refine Calls.call_function_entry (by decide +kernel) (by decide +kernel) PySem.W.kdk_entry_iter (PySem.W.kdk_args_iter _) ?_
  unfold Builtin.«iter»
  refine wpAny_bind (m := someArgs "iter" 1 2 _) (wpAny_of_eq (a := [Value.ref l]) (by first | rfl | kernel_rfl!) ?_)
  show wpAny _ _ (pyIter (.ref l) >>= _) _ _ _
  refine wpAny_bind (wpAny_pyIter_tuple (show sh.heap.IsTuple l vals.toArray from pl) ?_)
  refine wpAny_pure ⟨_, rfl, ?_⟩
  exact ⟨.ref sh.heap.objs.size, _, I.laid (t' := sh.toks) (fun b u e => Heap.get?_push_of_some _ e) (Nat.le_refl _) (itT_ok (Heap.get?_push_size _ rfl)), rfl, q _ (I.hok.fresh (Nat.le_refl _)) I.sz⟩
end
theorem drop_upd {H : Hp} {a : Addr} {o : HO} (h : H a = none) : ItX.dropH (upd H a o) a = H := ItX.dropH_upd h
section
variable {X : Cx} {tg e : Expr} {te : TE} {C f : Addr} {fd : FuncData} {ps : List Str} {k : Nat} {sp : Sp}
/-- e, of an own class, walked by what its __iter__ answers: iter of a tuple -/
def iOwnT (K : PySem.W.Frag) (n : Nat) (C : Addr) (sp : Sp) (te : TE) : TI := fun σ H R => te σ H fun x H1 => ∃ a dx fs, x = .ref a ∧ H1 a = some (.ins C dx fs) ∧
  sp [.ref a] H1 (fun v H2 => ∃ it l, v = .ref it ∧ H2 it = some (ItT l it) ∧ n ≤ it ∧ R (Itt K l) (ItX.dropH H2 it)) L2.E0
theorem pi_ownT (hs : PySem.W.findIn X.K (.ref C) "__iter__" = some (some (.ref f))) (hf : PySem.W.isFn X.K (.ref f) = true) (F : FnAt X.s_0.heap.objs.size X.prog X.w X.K X.mg X.base k f fd ps sp) (hr : Room k X.A) (hb : Binds X.K fd ps []) (he : PE X e te) :
    PI X tg e (iOwnT X.K X.s_0.heap.objs.size C sp te) := by
  refine ⟨fun pn sh σ H R I h => ?_⟩
  refine thn (he.run pn sh σ H _ I h) fun u sA ⟨v, H1, J, rel, q⟩ => ?_
  obtain ⟨a, dx, fs, rfl, ha, q⟩ := q
  cases rel
  obtain ⟨od, Ja⟩ := inst_of J ha
  obtain ⟨m, hF⟩ := J.fr
  refine PySem.W.owit_iter hF J.ok.mod.kin Ja hs hf ?_
  have hl := F.len _ _ _ _ q
  have bnd := hb sA [.ref a] J.kIn (by simpa using hl)
  refine wpAny_call (codeAny_mono (F.run X.A X.stack sA H1 ⟨[.ref a], []⟩ [.ref a] [.ref a] _ _ J.sz hr J.env0 (by simpa using bnd) (.cons rfl .nil) q) fun r s' z => ?_)
  match r, z with
  | .error er, z => exact z.elim
  | .ok .next, z => exact False.elim z
  | .ok .brk, z => exact False.elim z
  | .ok .cont, z => exact False.elim z
  | .ok (.ret w), z =>
    obtain ⟨v2, H2, J2, rel2, it, l, rfl, hit, hn, q2⟩ := J.after z
    cases rel2
    have eo := (J2.hok it _ hit).1
    have ty : s'.TypeIs (.ref it) "tuple_iterator" := ⟨_, eo, rfl⟩
    show PySem.W.OwitIt _ _ _ _ (.ref it) s'
    unfold PySem.W.OwitIt
    refine wpAny_specialOf (name := Str.ofString "__next__") ty PySem.F.slot_tuple_iterator_next.lookup ?_
    have hit' := hit
    unfold ItT at hit'
    refine ⟨it, [it], _, _, ItX.dropH H2 it, rfl, ItX.inv_drop J2 hit', turn_tuple l it, ⟨_, eo, rfl, rfl⟩, fun b hb => ?_, q2⟩
    have e : b = it := by simpa using hb
    rw [e]
    exact ItX.inv_fp J2 hit hn
end
end Gm
/-! x == t: an own class with its own ==, and a tuple. -/
namespace Gm
open PySem PySem.Spec PyProof.Rows L2
section
variable {X : Cx} {C f : Addr} {fd : FuncData} {ps : List Str} {CX : CXT} {k : Nat} {sp : Sp} {E : XK}
def rOwnCmpT (K : Frag) (C : Addr) (sp : Sp) (E : XK) : R2 := fun x y H Q => ∃ a b dx fs xs, x = .ref a ∧ y = .ref b ∧ H a = some (.ins C dx fs) ∧ SqT K H b xs ∧ sp [x, y] H Q E
theorem op_ownCmpT (hs : PySem.W.findIn X.K (.ref C) "__eq__" = some (some (.ref f))) (hf : PySem.W.isFn X.K (.ref f) = true) (hnf : PySem.W.notFirst X.K C (.type "tuple") = true)
    (F : FnOk X.prog X.w X.K X.mg X.base CX k f fd ps sp) (hr : Room k X.A) (hb : Binds X.K fd ps []) (hx : Passes CX X E) : OpR X (compareOp .Eq) (rOwnCmpT X.K C sp E) := by
  intro pn sg σ H x y v u Q I rx ry h
  obtain ⟨a, b, dx, fs, xs, rfl, rfl, ha, hq, q⟩ := h
  cases rx
  cases ry
  obtain ⟨od, J⟩ := inst_of I ha
  obtain ⟨vals, rv, pt, _⟩ := I.tuple hq
  obtain ⟨o, ho, hc, _⟩ := id pt
  obtain ⟨m, hF⟩ := I.fr
  show wpAny _ _ (richCompare .Eq (.ref a) (.ref b)) _ _ _
  refine PySem.W.cmp_K (op := .Eq) (tb := .type "tuple") hr.units0 hF I.ok.mod.kin J ?_ hnf hs hf ?_
  · exact hc ▸ (PySem.W.Looks.ld ho).andThen .now
  refine wpAny_mono (run_fn (us := [.ref a, .ref b]) (vs := [.ref a, .ref b]) F hr hb .nil hx I (.cons rfl (.cons rfl .nil)) q) (fun w s' z => ?_) fun _ _ z => z
  obtain ⟨zR, HR, IR, relZ, postZ⟩ := z
  exact SlX.cmpback relZ ⟨zR, HR, IR, relZ, postZ⟩
end
end Gm
/-! c != None, c of an own class that has only its own == -/
namespace Gm
open PySem PySem.Spec PyProof.Rows L2
section
variable {prog : Program} {w : World} {A : Around} {E : Value → Shared → Prop} {s : Shared} {K : PySem.W.Frag} {x C f : Addr} {ox : Obj} {od : Option Obj}
theorem objNeV_body {yv : Value} {Q : Fin → Shared → Prop} (X : K.In s.heap) (J : PySem.W.InstAt s.heap x ox C od) (hs : PySem.W.findIn K (.ref C) "__eq__" = some (some (.ref f))) (hf : PySem.W.isFn K (.ref f) = true) (hu : A.units < cLine)
    (h : wpAny (model prog w) A (call (.ref f) [.ref x, yv]) (fun v s' => ∃ b, v = Value.bool b ∧ Q (.done (.ret (.bool (!b)))) s') E s) : wpAny (model prog w) A (Builtin.«object.__ne__» ⟨[.ref x, yv], []⟩) Q E s := by
  unfold Builtin.«object.__ne__»
  repeat (first
    | with_reducible refine wpAny_cRoomFor hu ?_
    | (refine wpAny_bind (m := callSpecialIfBound? (.ref x) (Str.ofString "__eq__") [yv]) (PySem.W.ifBound_K X J hs hf (wpAny_mono h (fun v s' hv => ?_) fun _ _ e => e))
       obtain ⟨b, rfl, hq⟩ := hv
       repeat (first | exact hq | exact wpAny_pure hq | exact wpAny_truthy_bool hq | (refine wpAny_bind (m := truthy (.bool _)) (wpAny_truthy_bool ?_)) | wp_step))
    | wp_step)
theorem objNeV_call {yv : Value} {Q : Value → Shared → Prop} (X : K.In s.heap) (J : PySem.W.InstAt s.heap x ox C od) (hm : PySem.W.mroIn K C (.type "object") = some true) (hs : PySem.W.findIn K (.ref C) "__eq__" = some (some (.ref f))) (hf : PySem.W.isFn K (.ref f) = true) (hu : A.units + 1 < cLine)
    (h : wpAny (model prog w) A.in1 (call (.ref f) [.ref x, yv]) (NotBack Q) E s) : wpAny (model prog w) A (call (.builtin "object.__ne__") [.ref x, yv]) Q E s := by
  refine wpAny_call (codeAny_call_builtin F.cmp_object.ne.plain F.cmpEntry_ne (PySem.W.check_slot F.cmpKind_ne F.cmpSplit_ne (J.type.andThen (PySem.W.looks_mroIn X hm)) (F.cmpArgs_ne _ _) ?_))
  exact objNeV_body X J hs hf hu h
theorem cmpNeN_K {Q : Value → Shared → Prop} (X : K.In s.heap) (J : PySem.W.InstAt s.heap x ox C od) (hno : PySem.W.subIn K (.type "NoneType") (.ref C) = some false) (hm : PySem.W.mroIn K C (.type "object") = some true)
    (hn : PySem.W.findIn K (.ref C) "__ne__" = some (some (.builtin "object.__ne__"))) (hs : PySem.W.findIn K (.ref C) "__eq__" = some (some (.ref f))) (hf : PySem.W.isFn K (.ref f) = true) (hu : A.units + 1 < cLine)
    (h : wpAny (model prog w) A.in1 (call (.ref f) [.ref x, .none]) (NotBack Q) E s) : wpAny (model prog w) A (compareOp .NotEq (.ref x) .none) Q E s := by
  show wpAny (model prog w) A (richCompare .NotEq (.ref x) .none) Q E s
  have one : wpAny (model prog w) A (tryCompare (.ref x) "__ne__" .none) (fun r s' => ∃ v, r = some v ∧ Q v s') E s := by
    unfold tryCompare
    refine wpAny_bind (objNe_bound X J hn (objNeV_call X J hm hs hf hu (wpAny_mono h (fun v s' hv => ?_) fun _ _ e => e)))
    obtain ⟨b, rfl, hq⟩ := hv
    exact ⟨b, rfl, wpAny_pure ⟨_, rfl, hq⟩⟩
  have tn : PySem.W.Looks (model prog w) s.heap (typeOf Value.none) (.type "NoneType") := .now
  unfold richCompare
  rw [cmpInfo_NotEq]
  simp only [oneThing_ref]
  refine wpAny_holding (wpAny_bind (wpAny_cRoomFor (by omega) ?_))
  refine wpAny_bind (J.type.here (wpAny_bind (tn.here ?_)))
  rw [show (Value.ref C != Value.type "NoneType") = true from by simp]
  simp only [if_true]
  refine wpAny_bind ((PySem.W.looks_subIn X hno).here ?_)
  simp only [Bool.false_eq_true, if_false]
  refine wpAny_bind (wpAny_mono one (fun r s' z => ?_) fun _ _ e => e)
  obtain ⟨v, rfl, hq⟩ := z
  exact wpAny_pure hq
end
section
variable {X : Cx} {C f : Addr} {fd : FuncData} {ps : List Str} {CX : CXT} {k : Nat} {sp : Sp}
def rOwnNeN (C : Addr) (sp : Sp) (E : XK) : R2 := fun x y H Q => ∃ a dx fs, x = .ref a ∧ y = .non ∧ H a = some (.ins C dx fs) ∧ sp [x, y] H (fun v H' => ∃ t, v = .bl t ∧ Q (.bl (!t)) H') E
theorem op_ownNeN {E : XK} (hno : PySem.W.subIn X.K (.type "NoneType") (.ref C) = some false) (hm : PySem.W.mroIn X.K C (.type "object") = some true) (hn : PySem.W.findIn X.K (.ref C) "__ne__" = some (some (.builtin "object.__ne__"))) (hs : PySem.W.findIn X.K (.ref C) "__eq__" = some (some (.ref f))) (hf : PySem.W.isFn X.K (.ref f) = true)
    (F : FnOk X.prog X.w X.K X.mg X.base CX k f fd ps sp) (hr : Room (k + 1) X.A) (hb : Binds X.K fd ps []) (hx : ∀ (H : Hp) (s : Shared) (e : Value) (s' : Shared), CX X.stack H s E e s' → False) : OpR X (compareOp .NotEq) (rOwnNeN C sp E) := by
  intro pn sg σ H x y v u Q I rx ry h
  obtain ⟨a, dx, fs, rfl, rfl, ha, q⟩ := h
  cases rx
  cases (show u = Value.none from ry)
  obtain ⟨od, J⟩ := inst_of I ha
  refine cmpNeN_K I.kIn J hno hm hn hs hf (by have := hr.units; omega) ?_
  have hl := F.len _ _ _ _ q
  have rv : Vals [V.ref a, V.non] [Value.ref a, Value.none] := .cons rfl (.cons rfl .nil)
  refine wpAny_call (codeAny_mono (F.run X.A.in1 X.stack sg H ⟨[.ref a, .none], []⟩ [.ref a, .none] [.ref a, .non] _ E hr.in1 I.env0.in1 (by
    have := hb sg [.ref a, .none] I.kIn (by simpa using hl)
    simpa using this) rv q) fun r s' hq => ?_)
  cases r with
  | error e => exact (hx _ _ _ _ hq).elim
  | ok fl =>
    cases fl with
    | ret w =>
      obtain ⟨z, H', I', rz, t, ez, ex⟩ := I.after hq
      subst ez
      cases (show w = Value.bool t from rz)
      exact ⟨t, rfl, .bl (!t), H', I', rfl, ex⟩
    | next => exact False.elim hq
    | brk => exact False.elim hq
    | cont => exact False.elim hq
end
/-! ### a comprehension over the rows and their items -/
/-- [f(item) for row in rows for item in row] -/
theorem lc2_rows {K : Frag} {pa : Addr} {ws : List V} {m : List (List Int)} {H1 : Hp} {D : Addr} {j j1 : Nat} {te : TE} {vs vs1 : List Nat} {σ : L2.St} {f : Int → Int} {Qd : Hp → Prop} (ha : SqT K H1 pa ws) (hD : H1 D = none)
    (hp : Paired (TRow K H1) ws m) (hlen : m.flatten.length ≤ 1000)
    (hw0 : ∀ x, wipe (List.set (wipe σ vs) j x) vs = wipe σ vs) (hw1 : ∀ x y, wipe (List.set (wipe (List.set (wipe σ vs) j x) vs1) j1 y) vs1 = wipe (List.set (wipe σ vs) j x) vs1)
    (hrow : ∀ x, (List.set (wipe σ vs) j x)[j]? = some x)
    (step : ∀ (z : Int) (x : Option V) (H : Hp) (Ko : VK), Ko (.int (f z)) H → te (List.set (wipe (List.set (wipe σ vs) j x) vs1) j1 (some (.int z))) H Ko)
    (done : ∀ H, Same H1 H → H D = some (.lst ((m.flatten.map f).map V.int)) → Qd H) :
    ∃ W : Nat → Nat → Hp → Prop, (∃ m, W 0 m (upd H1 D (.lst []))) ∧ ∀ i m H, W i m H →
  ((Itt K pa).stop i H ∧ Qd H) ∨ ((Itt K pa).go i H ∧ ∃ Nx : Hp → Prop, (∀ H', Nx H' → ∃ m', m' < m ∧ W (i + 1) m' H') ∧ ∀ x H', (Itt K pa).yld i H x H' → gName j x (wipe σ vs) H' fun σ2 H2 => wipe σ2 vs = wipe σ vs ∧ tYes σ2 H2 fun b H3 =>
    if b = true then iTup K (tVar j) σ2 H3 fun J1 H4 => ∃ W1 : Nat → Nat → Hp → Prop, (∃ m, W1 0 m H4) ∧ ∀ j2 k H, W1 j2 k H →
      (J1.stop j2 H ∧ Nx H) ∨ (J1.go j2 H ∧ ∃ Nx1 : Hp → Prop, (∀ H', Nx1 H' → ∃ k', k' < k ∧ W1 (j2 + 1) k' H') ∧ ∀ x H', J1.yld j2 H x H' → gName j1 x (wipe σ2 vs1) H' fun σ3 H5 => wipe σ3 vs1 = wipe σ2 vs1 ∧ tYes σ3 H5 fun b H6 =>
        if b = true then te σ3 H6 fun y H7 => ∃ acc, H7 D = some (.lst acc) ∧ acc.length < sizeLine ∧ Nx1 (upd H7 D (.lst (acc ++ [y]))) else Nx1 H6)
    else Nx H3) := by
  have lw := Paired.length hp
  have w := walk_tup (K := K) (a := pa) (xs := ws)
  let P : Nat → Hp → Prop := fun i H => Same H1 H ∧ H D = some (.lst (((m.take i).flatten.map f).map V.int))
  have upk : ∀ {H : Hp} {o : HO}, Same H1 H → Same H1 (upd H D o) := fun s b o e => by rw [upd_ne (ne_of_none e hD)]; exact s _ _ e
  refine ⟨fun i k H => k = ws.length - i ∧ i ≤ ws.length ∧ P i H, ⟨ws.length, by simp, Nat.zero_le _, upk (Same.refl _), by rw [upd_same]; rfl⟩, ?_⟩
  rintro i k H ⟨rfl, hi, sH, eD⟩
  by_cases hlt : i < ws.length
  · refine .inr ⟨w.goes i H hlt (Same.seqT sH ha), P (i + 1), fun H' p' => ⟨ws.length - (i + 1), by omega, rfl, hlt, p'⟩, fun x H' y => ?_⟩
    obtain ⟨rfl, ex⟩ := w.yields i H x H' hlt (Same.seqT sH ha) y
    obtain ⟨r, er, a, rfl, har⟩ := Paired.getR hp ex
    have w1 := walk_tup (K := K) (a := a) (xs := r.map V.int)
    refine ⟨hw0 _, tyes_of ?_⟩
    have etk : m.take (i + 1) = m.take i ++ [r] := by rw [List.take_add_one, er]; rfl
    have hfl : ((m.take (i + 1)).flatten).length ≤ m.flatten.length := by
      have : m.flatten = (m.take (i + 1)).flatten ++ (m.drop (i + 1)).flatten := by rw [← List.flatten_append, List.take_append_drop]
      rw [this, List.length_append]
      omega
    rw [etk, List.flatten_append, List.length_append] at hfl
    simp only [List.flatten_cons, List.flatten_nil, List.append_nil] at hfl
    refine ⟨_, hrow _, a, rfl, ⟨_, Same.seqT sH har⟩, ?_⟩
    let P1 : Nat → Hp → Prop := fun q H => Same H1 H ∧ H D = some (.lst (((((m.take i).flatten ++ r.take q)).map f).map V.int))
    refine ⟨fun q k H => k = (r.map V.int).length - q ∧ q ≤ (r.map V.int).length ∧ P1 q H, ⟨(r.map V.int).length, by simp, Nat.zero_le _, sH, by rw [List.take_zero, List.append_nil]; exact eD⟩, ?_⟩
    rintro q k H3 ⟨rfl, hq, s3, e3⟩
    by_cases hlt1 : q < (r.map V.int).length
    · refine .inr ⟨w1.goes q H3 hlt1 (Same.seqT s3 har), P1 (q + 1), fun H' p' => ⟨(r.map V.int).length - (q + 1), by omega, rfl, hlt1, p'⟩, fun x H4 y => ?_⟩
      obtain ⟨rfl, ex1⟩ := w1.yields q H3 x H4 hlt1 (Same.seqT s3 har) y
      obtain ⟨z, ez, rfl⟩ := ints_get ex1
      refine ⟨hw1 _ _, tyes_of (step z _ _ _ ⟨_, e3, small1000 ?_, upk s3, ?_⟩)⟩
      · rw [List.length_map] at hlt1
        rw [List.length_map, List.length_map, List.length_append, List.length_take]
        omega
      · rw [upd_same, List.take_add_one, ez]
        simp [List.map_append]
    · have e : q = (r.map V.int).length := by omega
      subst e
      refine .inl ⟨w1.stops H3 (Same.seqT s3 har), s3, ?_⟩
      have e2 : List.take (r.map V.int).length r = r := List.take_of_length_le (by rw [List.length_map]; exact Nat.le_refl _)
      rw [e2] at e3
      rw [etk, List.flatten_append]
      simp only [List.flatten_cons, List.flatten_nil, List.append_nil]
      exact e3
  · have e : i = ws.length := by omega
    subst e
    rw [List.take_of_length_le (by omega)] at eD
    exact .inl ⟨w.stops H (Same.seqT sH ha), done H sH eD⟩
end Gm
/-! Of an own class: x in c, c == an object of another own class, c != None; range(a, b) as a value; a comprehension over the rows and their items. -/
namespace Gm
open PySem PySem.Spec PyProof.Rows L2
section
variable {X : Cx} {C f : Addr} {fd : FuncData} {ps : List Str} {CX : CXT} {k : Nat} {sp : Sp} {E : XK}
/-- x in c: the answer of the own def is True or False -/
def rOwnIn (C : Addr) (sp : Sp) (E : XK) (neg : Bool) : R2 := fun x y H Q => ∃ b dx fs, y = .ref b ∧ H b = some (.ins C dx fs) ∧ sp [y, x] H (fun v H' => ∃ t, v = .bl t ∧ Q (.bl (if neg then !t else t)) H') E
theorem op_ownIn (hs : PySem.W.findIn X.K (.ref C) "__contains__" = some (some (.ref f))) (hf : PySem.W.isFn X.K (.ref f) = true)
    (F : FnOk X.prog X.w X.K X.mg X.base CX k f fd ps sp) (hr : Room k X.A) (hb : Binds X.K fd ps []) (hx : Passes CX X E) : OpR X (compareOp .In) (rOwnIn C sp E false) := by
  intro pn sg σ H x y v u Q I rx ry h
  obtain ⟨b, dx, fs, rfl, ha, q⟩ := h
  cases ry
  obtain ⟨od, J⟩ := inst_of I ha
  obtain ⟨m, hF⟩ := I.fr
  refine PySem.W.in_K hF I.ok.mod.kin J hs hf ?_
  refine wpAny_mono (run_fn (us := [.ref b, v]) (vs := [.ref b, x]) F hr hb .nil hx I (.cons rfl (.cons rx .nil)) q) (fun w' s' z => ?_) fun _ _ z => z
  obtain ⟨zR, HR, IR, relZ, t, rfl, postZ⟩ := z
  cases (show w' = Value.bool t from relZ)
  exact wpAny_truthy_bool ⟨.bl t, HR, IR, rfl, postZ⟩
theorem op_ownNotIn (hs : PySem.W.findIn X.K (.ref C) "__contains__" = some (some (.ref f))) (hf : PySem.W.isFn X.K (.ref f) = true)
    (F : FnOk X.prog X.w X.K X.mg X.base CX k f fd ps sp) (hr : Room k X.A) (hb : Binds X.K fd ps []) (hx : Passes CX X E) : OpR X (compareOp .NotIn) (rOwnIn C sp E true) := by
  intro pn sg σ H x y v u Q I rx ry h
  obtain ⟨b, dx, fs, rfl, ha, q⟩ := h
  cases ry
  obtain ⟨od, J⟩ := inst_of I ha
  obtain ⟨m, hF⟩ := I.fr
  refine PySem.W.notIn_K hF I.ok.mod.kin J hs hf ?_
  refine wpAny_mono (run_fn (us := [.ref b, v]) (vs := [.ref b, x]) F hr hb .nil hx I (.cons rfl (.cons rx .nil)) q) (fun w' s' z => ?_) fun _ _ z => z
  obtain ⟨zR, HR, IR, relZ, t, rfl, postZ⟩ := z
  cases (show w' = Value.bool t from relZ)
  exact wpAny_truthy_bool ⟨.bl (!t), HR, IR, rfl, postZ⟩
/-- c == an object of another own class -/
def rOwnCmpO (C C2 : Addr) (sp : Sp) (E : XK) : R2 := fun x y H Q => ∃ a b dx fs dy gs, x = .ref a ∧ y = .ref b ∧ H a = some (.ins C dx fs) ∧ H b = some (.ins C2 dy gs) ∧ sp [x, y] H Q E
theorem op_ownCmpO {C2 : Addr} (hs : PySem.W.findIn X.K (.ref C) "__eq__" = some (some (.ref f))) (hf : PySem.W.isFn X.K (.ref f) = true) (hnf : PySem.W.notFirst X.K C (.ref C2) = true)
    (F : FnOk X.prog X.w X.K X.mg X.base CX k f fd ps sp) (hr : Room k X.A) (hb : Binds X.K fd ps []) (hx : Passes CX X E) : OpR X (compareOp .Eq) (rOwnCmpO C C2 sp E) := by
  intro pn sg σ H x y v u Q I rx ry h
  obtain ⟨a, b, dx, fs, dy, gs, rfl, rfl, ha, hb', q⟩ := h
  cases rx
  cases ry
  obtain ⟨od, J⟩ := inst_of I ha
  obtain ⟨od', J'⟩ := inst_of I hb'
  obtain ⟨m, hF⟩ := I.fr
  show wpAny _ _ (richCompare .Eq (.ref a) (.ref b)) _ _ _
  refine PySem.W.cmp_K (op := .Eq) (tb := .ref C2) hr.units0 hF I.ok.mod.kin J J'.type hnf hs hf ?_
  refine wpAny_mono (run_fn (us := [.ref a, .ref b]) (vs := [.ref a, .ref b]) F hr hb .nil hx I (.cons rfl (.cons rfl .nil)) q) (fun w s' z => ?_) fun _ _ z => z
  obtain ⟨zR, HR, IR, relZ, postZ⟩ := z
  exact SlX.cmpback relZ ⟨zR, HR, IR, relZ, postZ⟩
end
end Gm
/-! any(a tuple of ints) -/
namespace Gm
open PySem PySem.Spec PyProof.Rows L2
theorem iter_anyT {prog : Program} {w : World} {A : Around} {E : Value → Shared → Prop} {s : Shared} {l : Addr} {items : Array Value} {Q : Value → Shared → Prop} (hl : s.heap.IsTuple l items)
    (h : ∀ s₂ : Shared, s₂ = { s with heap := s.heap.push { cls := .type "tuple_iterator", data := .fields #[.ref l, .int 0 0] } } →
      (s₂.heap.IsTupleIter s.heap.objs.size l 0 ∧ s₂.heap.IsTuple l items) → l ≠ s.heap.objs.size → Q (.ref s.heap.objs.size) s₂) : wpAny (model prog w) A (pyIter (.ref l)) Q E s := by
  have hlt : l < s.heap.objs.size := by obtain ⟨_, e, _⟩ := hl; exact Heap.lt_size e
  exact wpAny_pyIter_tuple hl (h _ rfl ⟨⟨_, Heap.get?_push_size _ rfl, rfl, rfl⟩, hl.push _⟩ (Nat.ne_of_lt hlt))
theorem truth_ints {prog : Program} {w : World} {A : Around} {ns : List Int} {its : List Value} (e : Vals (ns.map V.int) its) :
    TruthOf prog w A (fun i v => its.toArray[i]? = some v) (fun i => ns.getD i 0 != 0) := fun i v s Q E hv hq => by
  have hv' : its[i]? = some v := by simpa using hv
  obtain ⟨z, t, hz, rfl⟩ : ∃ z t, ns[i]? = some z ∧ v = Value.int z t := by
    clear hq hv
    induction ns generalizing its i with
    | nil => cases e; cases hv'
    | cons n ns ih =>
      cases e with
      | cons x xs =>
        cases i with
        | zero =>
          obtain ⟨t, ht⟩ := x
          refine ⟨n, t, rfl, ?_⟩
          have : _ = v := Option.some.inj hv'
          rw [← this, ht]
        | succ i => exact ih xs i hv'
  have hg : (ns.getD i 0 != 0) = (z != 0) := by rw [List.getD_eq_getElem?_getD, hz] <;> rfl
  have hq' : Q (ns.getD i 0 != 0) s := hq
  rw [hg] at hq'
  exact PySem.P.truthy_int hq'
theorem any_rangeI : ∀ ns : List Int, (List.range ns.length).any (fun i => ns.getD i 0 != 0) = ns.any (fun z => z != 0)
  | [] => rfl
  | b :: bs => by
    rw [List.length_cons, List.range_succ_eq_map, List.any_cons, List.any_map, List.any_cons, ← any_rangeI bs]
    all_goals rfl
section
variable {X : Cx}
def rAnyI (K : PySem.W.Frag) : List V → Hp → VK → Prop := fun vs H Q => ∃ (a : Addr) (ns : List Int), vs = [V.ref a] ∧ SqT K H a (ns.map V.int) ∧ Q (.bl (ns.any fun z => z != 0)) H
theorem cr_anyI (hc : X.calm = true) : CallR X (.builtin "any") (rAnyI X.K) := by
  intro pins s σ H vs us Q I r h
  obtain ⟨a, ns, rfl, hs, q⟩ := h
  obtain ⟨its, rv, hl, _⟩ := I.tuple hs
  rw [Vals.ref1 r]
  refine call_any_walk (iter_anyT hl fun s₂ e2 st hne => ?_)
  subst e2
  refine ⟨_, _, _, _, _, _, _, rfl, Walks.tuple (A := X.A.in1) (I.ok.hd hc) _ a hne its.toArray, st, truth_ints rv, fun h' tk hk => ?_⟩
  refine ⟨.bl _, H, I.kept fun b o eo => hk b o (fun hmem => ?_) (Heap.get?_push_of_some _ eo), ?_, q⟩
  · rcases List.mem_cons.mp hmem with e1 | hmem
    · exact absurd (e1 ▸ Heap.lt_size eo) (Nat.lt_irrefl _)
    · cases hmem
  · have hlen : its.length = ns.length := by have := rv.length; rw [List.length_map] at this; omega
    show Value.bool _ = Value.bool _
    rw [← any_rangeI, List.size_toArray, hlen]
theorem anyIK (K : PySem.W.Frag) (hK : X.K = K) (hc : X.calm = true) : CallR X (.builtin "any") (rAnyI K) := by subst hK; exact cr_anyI hc
end
end Gm
/-! try with several clauses, each with a name or without -/
namespace Gm
open PySem PySem.Spec PyProof.Rows L2
abbrev Clause := Value × Option Nat × (Addr → Value → Option Addr → TS)
/-- behind a clause its name is gone -/
def endI (i : Option Nat) (D : Ends) : Ends := match i with
  | none => D
  | some i => { nx := fun σ' H' => D.nx (σ'.set i none) H', rt := D.rt, bk := fun σ' H' => D.bk (σ'.set i none) H', ct := fun σ' H' => D.ct (σ'.set i none) H' }
def setI (i : Option Nat) (a : Addr) (σ : L2.St) : L2.St := match i with
  | none => σ
  | some i => σ.set i (some (.ref a))
def wCl (K : PySem.W.Frag) (Wout : WX) (D : Ends) : List Clause → WX
  | [] => Wout
  | (c, i, ts) :: r => fun cls d σ H => ∃ b, PySem.W.exmOne K cls c = some b ∧ (b = true → ∀ a, H a = none → ts a cls d (endI i D) (setI i a σ) H) ∧ (b = false → wCl K Wout D r cls d σ H)
inductive ClsOk (X : Cx) : List ExceptHandler → List Clause → Prop
  | nil : ClsOk X [] []
  | bare {x : Str} {c : Value} {ts : Addr → Value → Option Addr → TS} {b₀ : Stmt} {suite : List Stmt} {np pos' : Pos} {hds : List ExceptHandler} {l : List Clause} (hc : Names X x c)
      (hsu : ∀ (a : Addr) (oe : Obj) (cls : Value) (d : Option Addr) (pn : List (Addr × Obj)), Zc cls d oe → (∃ vs, oe.data = .fields vs) → PSs (X.suite a ((a, oe) :: pn)) (b₀ :: suite) (ts a cls d)) (r : ClsOk X hds l) :
      ClsOk X (.ExceptHandler (some (.Name x np)) none (b₀ :: suite) pos' :: hds) ((c, none, ts) :: l)
  | named {x n : Str} {c : Value} {i : Nat} {ts : Addr → Value → Option Addr → TS} {b₀ : Stmt} {suite : List Stmt} {np pos' : Pos} {hds : List ExceptHandler} {l : List Clause} (hc : Names X x c) (hN : X.N.Nodup) (hi : X.N[i]? = some n) (hln : X.env.kindOf n = some .local)
      (hsu : ∀ (a : Addr) (oe : Obj) (cls : Value) (d : Option Addr) (pn : List (Addr × Obj)), Zc cls d oe → (∃ vs, oe.data = .fields vs) → PSs (X.suite a ((a, oe) :: pn)) (b₀ :: suite) (ts a cls d)) (r : ClsOk X hds l) :
      ClsOk X (.ExceptHandler (some (.Name x np)) (some n) (b₀ :: suite) pos' :: hds) ((c, some i, ts) :: l)
section
variable {X : Cx} {pins : List (Addr × Obj)}
/-- how a statement's end in another context is one here -/
theorem sp_back {D D' : Ends} {f : Flow} {s : Shared} {X' : Cx} {pins' : List (Addr × Obj)} (h : SP X' pins' D' f s) (ok : ∀ σ H, Inv X' pins' σ H s → Inv X pins σ H s) (nx : ∀ σ H, D'.nx σ H → D.nx σ H) (rt : ∀ v H, D'.rt v H → D.rt v H) (bk : ∀ σ H, D'.bk σ H → D.bk σ H) (ct : ∀ σ H, D'.ct σ H → D.ct σ H) : SP X pins D f s := by
  cases f with
  | next => obtain ⟨σ, H, I, q⟩ := h; exact ⟨σ, H, ok _ _ I, nx _ _ q⟩
  | brk => obtain ⟨σ, H, I, q⟩ := h; exact ⟨σ, H, ok _ _ I, bk _ _ q⟩
  | cont => obtain ⟨σ, H, I, q⟩ := h; exact ⟨σ, H, ok _ _ I, ct _ _ q⟩
  | ret u => obtain ⟨v, σ, H, I, r, q⟩ := h; exact ⟨v, σ, H, ok _ _ I, r, rt _ _ q⟩
end
section
variable {X : Cx} {body : List Stmt} {h₀ : ExceptHandler} {hds : List ExceptHandler} {l : List Clause} {pos : Pos} {tb : WX → TS} {Wout : WX}
theorem ps_try_cl (hs : X.stack = X.env :: X.outer) (hf : X.env.frame = some X.env.locals) (tk : Takes X Wout)
    (hb : ∀ (W : WX) (pn : List (Addr × Obj)) (xe : Value → Shared → Prop), Takes (X.tr pn xe) W → PassesOwn (model X.prog X.w) X.A X.env xe → PSs (X.tr pn xe) body (tb W))
    (hh : ClsOk X (h₀ :: hds) l) : PS X (.Try body (h₀ :: hds) [] [] pos) (fun D σ H => tb (wCl X.K Wout D l) D σ H) := by
  refine ⟨fun pins s σ H D I h => ?_⟩
  have ok := I.ok
  have hfr : X.A.frames = some (X.env :: X.outer) := by rw [ok.frames, hs]
  refine wpAny_Try_except ?_
  refine wpAny_mono ((hb (wCl X.K Wout D l) (X.pn ++ pins) (fun e s₁ => wpAny (model X.prog X.w) X.A (noteFrame e X.env) (fun _ s₂ => wpAny (model X.prog X.w) X.A (setFlight e none) (fun _ s₃ =>
    wpAny (model X.prog X.w) X.A (handleBy e X.env (h₀ :: hds)) (SP X pins D) X.xe s₃) X.xe s₂) X.xe s₁) (fun u s' xx => ?caught) PassesOwn.looking).run [] s σ H D (I.toTry _) h) (fun f s1 hsp => ?ends) (fun e s1 he => he)
  case ends =>
    have back : SP X pins D f s1 := sp_back hsp (fun _ _ J => J.ofTry ok) (fun _ _ q => q) (fun _ _ q => q) (fun _ _ q => q) (fun _ _ q => q)
    cases f with
    | next => exact wpAny_execs_nil back
    | brk => exact back
    | cont => exact back
    | ret u => exact back
  case caught =>
    obtain ⟨a, B, sI, pins', σ', H', cls, d, rfl, J', nb, up, sky, na, os, ag, w⟩ := xx
    have J : Inv X pins σ' H' sI := J'.ofTry ok
    rw [show (X.tr (X.pn ++ pins) _).stack = X.env :: X.outer from hs] at sky
    show wpAny (model X.prog X.w) X.A (noteFrame (.ref a) X.env) _ _ _
    refine Sky.land Zc.steady hfr hf sky fun h3 fl3 up3 => ?_
    have J3 : Inv X pins σ' H' { s' with heap := h3 } := J.landed nb fl3.1 (up.trans up3) os ag
    obtain ⟨oe3, vs3, he3, hz3, hd3⟩ := fl3.there
    have nfr : a ∉ frs (X.env :: X.outer) := fun hm => by
      obtain ⟨_, o', e', hnf⟩ := fl3.2.2.1.mem hm
      rw [he3] at e'
      cases e'
      exact hnf _ hd3
    have nL : a ≠ X.env.locals := fun z => nfr (List.mem_filterMap.mpr ⟨X.env, List.mem_cons_self, by rw [hf, z]⟩)
    have nF : a ∉ X.fs := fun hm => by
      obtain ⟨e, he, q⟩ := List.mem_filterMap.mp hm
      exact nfr (List.mem_filterMap.mpr ⟨e, List.mem_cons_of_mem _ he, q⟩)
    have S3 := J3.suite he3 hd3 na nL nF
    have LT : PySem.W.Looks (model X.prog X.w) h3 (typeOf (.ref a)) cls := fun A Q E s k q => wpAny_typeOf_ref (k _ _ he3) (by rw [hz3.1]; exact q)
    have named : ∀ {x : Str} {c : Value} {np : Pos} {Q : Value → Shared → Prop} {E : Value → Shared → Prop}, Names X x c → Q c { s' with heap := h3 } → wpAny (model X.prog X.w) (X.A.mark (some (.ref a))) (eval (.Name x np) X.env) Q E { s' with heap := h3 } := fun {x c np Q E} hc q => by
      obtain ⟨hg, hdbg, hm | ⟨hm, hv, hnn⟩⟩ := hc
      · exact ld_glob (X := X.suite a ((a, oe3) :: (X.pn ++ pins))) S3 hg hm q hdbg
      · exact ld_blt (X := X.suite a ((a, oe3) :: (X.pn ++ pins))) S3 hg hm hv q hnn hdbg
    -- no clause is left
    have onward : Wout cls d σ' H' → wpAny (model X.prog X.w) X.A (handleBy (.ref a) X.env []) (SP X pins D) X.xe { s' with heap := h3 } := fun w => by
      refine wpAny_handleBy_nil ?_
      obtain ⟨_, _, _, oe, vs, T, oT, ts', he, hz, hd, h1, hr⟩ := id fl3
      unfold PySem.passOn
      refine wpAny_bind (wpAny_field he hd h1 ?_)
      rw [if_neg (show ¬ ((Value.ref T == Value.none) = true) from by simp)]
      have fin : wpAny (model X.prog X.w) X.A (setFlight (.ref a) X.env.frame) (fun _ s4 => wpAny (model X.prog X.w) X.A (throw (.ref a) : Sem Flow) (SP X pins D) X.xe s4) X.xe { s' with heap := h3 } := by
        rw [hf]
        refine HandSPX.setFlight_upZ fl3 fun h4 hh4 up4 => wpAny_throw (tk _ _ ?_)
        exact ⟨a, B, sI, pins, σ', H', cls, d, rfl, J, nb, (up.trans up3).trans up4, .inr (.inr (by rw [hs]; exact hh4)), na, os, ag, w⟩
      first
        | exact wpAny_bind (wpAny_pure (wpAny_bind fin))
        | exact wpAny_bind fin
    clear h hb
    suffices go : ∀ {hds' : List ExceptHandler} {l' : List Clause}, ClsOk X hds' l' → wCl X.K Wout D l' cls d σ' H' → wpAny (model X.prog X.w) X.A (handleBy (.ref a) X.env hds') (SP X pins D) X.xe { s' with heap := h3 } from go hh w
    intro hds' l' hk w
    induction hk with
    | nil => exact onward w
    | @bare x c ts b₀ suite np pos' hds2 l2 hc hsu r ih =>
      obtain ⟨b, hb1, hyes, hno⟩ := w
      refine wpAny_handleBy_cons (codeAny_handlers_test ?_) (by intro q; cases q)
      refine named hc ((PySem.W.exm_one (M := model X.prog X.w) (J3.kIn) LT hb1).here ?_)
      cases b with
      | false => exact ih (hno rfl)
      | true =>
        refine codeAny_handlers_suite ?_
        refine HandSPX.lands_againZ fl3 fun h4 fl4 up4 => ?_
        have J4 : Inv X pins σ' H' { s' with heap := h4 } := J.landed nb fl4.1 ((up.trans up3).trans up4) os ag
        obtain ⟨oe4, vs4, he4, hz4, hd4⟩ := fl4.there
        have S4 := J4.suite he4 hd4 na nL nF
        refine wpAny_mono ((hsu a oe4 cls d (X.pn ++ pins) hz4 ⟨_, hd4⟩).run [] _ _ H' _ S4 (hyes rfl a na)) (fun f s6 hsp => ?_) (fun _ _ z => False.elim z)
        have back : SP X pins D f s6 := sp_back hsp (fun _ _ J => J.unsuite ok) (fun _ _ q => q) (fun _ _ q => q) (fun _ _ q => q) (fun _ _ q => q)
        cases f <;> exact back
    | @named x n c i ts b₀ suite np pos' hds2 l2 hc hN hi hln hsu r ih =>
      obtain ⟨b, hb1, hyes, hno⟩ := w
      refine wpAny_handleBy_cons (codeAny_handlers_test ?_) (by intro q; cases q)
      refine named hc ((PySem.W.exm_one (M := model X.prog X.w) (J3.kIn) LT hb1).here ?_)
      cases b with
      | false => exact ih (hno rfl)
      | true =>
        refine codeAny_handlers_suite_as ?_
        refine HandSPX.lands_againZ fl3 fun h4 fl4 up4 => ?_
        have J4 : Inv X pins σ' H' { s' with heap := h4 } := J.landed nb fl4.1 ((up.trans up3).trans up4) os ag
        obtain ⟨oe4, vs4, he4, hz4, hd4⟩ := fl4.there
        have S4 := J4.suite he4 hd4 na nL nF
        refine store_ok (X := X.suite a ((a, oe4) :: (X.pn ++ pins))) (v := .ref a) S4 hN hi (.inl hln) rfl (fun s5 S5 => ?_) (.inr hln)
        refine wpAny_mono ((hsu a oe4 cls d (X.pn ++ pins) hz4 ⟨_, hd4⟩).run [] s5 _ H' _ S5 (hyes rfl a na)) (fun f s6 hsp => ?_) (fun _ _ z => False.elim z)
        have gone : ∀ {σ6 : L2.St} {H6 : Hp} {Q : Shared → Prop}, Inv (X.suite a ((a, oe4) :: (X.pn ++ pins))) [] σ6 H6 s6 → (∀ s7, Inv X pins (σ6.set i none) H6 s7 → Q s7) →
            wpAny (model X.prog X.w) X.A (do bindName X.env n .none; unbindBehindTheSuite X.env n pos') (fun _ s7 => Q s7) X.xe s6 := fun {σ6 H6 Q} S6 hq => gone_ok (S6.unsuite ok) hN hi hln hq
        cases f with
        | next =>
          obtain ⟨σ6, H6, S6, q6⟩ := hsp
          exact gone S6 fun s7 J7 => ⟨_, _, J7, q6⟩
        | brk =>
          obtain ⟨σ6, H6, S6, q6⟩ := hsp
          exact gone S6 fun s7 J7 => ⟨_, _, J7, q6⟩
        | cont =>
          obtain ⟨σ6, H6, S6, q6⟩ := hsp
          exact gone S6 fun s7 J7 => ⟨_, _, J7, q6⟩
        | ret u =>
          obtain ⟨v6, σ6, H6, S6, r6, q6⟩ := hsp
          exact gone S6 fun s7 J7 => ⟨_, _, _, J7, r6, q6⟩
end
end Gm
/-! isinstance(e, c), e a caught error that has a dict of its own -/
namespace Gm
open PySem PySem.Spec PyProof.Rows L2
def rIsX (K : PySem.W.Frag) (cls : Value) (d : Option Addr) (D a : Addr) : List V → Hp → VK → Prop := fun xs H Q => ∃ (c : V) (cv : Value) (b : Bool) (dd : Addr) (fs : List (Str × V)), xs = [.ref a, c] ∧ (∀ u, RelV c u → u = cv) ∧ cls = .ref D ∧ d = some dd ∧ H dd = some (.xd fs) ∧ PySem.W.kitOne K (.ref D) cv = some b ∧ Q (.bl b) H
theorem call_isX {X : Cx} {a D : Addr} {oe : Obj} {cls : Value} {d : Option Addr} {pn : List (Addr × Obj)} (hcl : (PySem.W.clsIn X.K D).isSome = true) (T : XfC X.K D) (ha : PySem.W.findIn X.K (.ref D) "__class__" = some (some (.builtin "object.__class__")))
    (hn : PySem.W.specialIn X.K (.builtin "object.__class__") "__get__" = some (some (.builtin "getset_descriptor.__get__"))) (ht : PySem.W.takesIn X.K (.builtin "object.__class__") = some true) (hm : PySem.W.mroIn X.K D (.type "object") = some true)
    (hz : Zc cls d oe) (hf : ∃ vs, oe.data = .fields vs) : CallR (X.suite a ((a, oe) :: pn)) (.builtin "isinstance") (rIsX X.K cls d D a) := by
  intro pins s σ H xs us Q I r h
  obtain ⟨c, cv, b, dd, fs, rfl, hcv, ec, ed, ea, e, q⟩ := h
  subst ec ed
  cases r with
  | cons rx rr =>
    cases rr with
    | cons rt rr =>
      cases rr
      cases rx
      have ec := hcv _ rt
      subst ec
      obtain ⟨hget, _⟩ := I.pin (a, oe) (List.mem_append.mpr (.inl List.mem_cons_self))
      obtain ⟨vs, hv⟩ := hf
      have hx : ObjOk X.prog X.w H s.heap dd (.xd fs) := I.hok dd _ ea
      obtain ⟨mA, hns, _⟩ := hx
      obtain ⟨od, ho, _⟩ := lookIn_ns hns
      have J : PySem.W.InstAt s.heap a oe D (some od) := ⟨hget, hz.1, by unfold PySem.W.notCls; rw [hv] <;> rfl, by rw [hz.2]; exact ho⟩
      exact PySem.W.kia_one (PySem.W.kitx_exc (od := some od) hcl T.ga T.gg T.exC ha hn ht hm) I.kIn J e (fun z => nomatch z) fun tk => ⟨.bl b, H, I.kept (t' := tk) fun _ _ z => z, rfl, q⟩
/-- isinstance(e, c), e a caught error without a dict of its own, its class told by the reading -/
def rIsY (K : PySem.W.Frag) (cls : Value) (d : Option Addr) (D a : Addr) : List V → Hp → VK → Prop := fun xs H Q => ∃ (c : V) (cv : Value) (b : Bool), xs = [.ref a, c] ∧ (∀ u, RelV c u → u = cv) ∧ cls = .ref D ∧ d = none ∧ PySem.W.kitOne K (.ref D) cv = some b ∧ Q (.bl b) H
theorem call_isY {X : Cx} {a D : Addr} {oe : Obj} {cls : Value} {d : Option Addr} {pn : List (Addr × Obj)} (hcl : (PySem.W.clsIn X.K D).isSome = true) (T : XfC X.K D) (ha : PySem.W.findIn X.K (.ref D) "__class__" = some (some (.builtin "object.__class__")))
    (hn : PySem.W.specialIn X.K (.builtin "object.__class__") "__get__" = some (some (.builtin "getset_descriptor.__get__"))) (ht : PySem.W.takesIn X.K (.builtin "object.__class__") = some true) (hm : PySem.W.mroIn X.K D (.type "object") = some true)
    (hz : Zc cls d oe) (hf : ∃ vs, oe.data = .fields vs) : CallR (X.suite a ((a, oe) :: pn)) (.builtin "isinstance") (rIsY X.K cls d D a) := by
  intro pins s σ H xs us Q I r h
  obtain ⟨c, cv, b, rfl, hcv, ec, ed, e, q⟩ := h
  subst ec ed
  cases r with
  | cons rx rr =>
    cases rr with
    | cons rt rr =>
      cases rr
      cases rx
      have ec := hcv _ rt
      subst ec
      obtain ⟨hget, _⟩ := I.pin (a, oe) (List.mem_append.mpr (.inl List.mem_cons_self))
      obtain ⟨vs, hv⟩ := hf
      have J : PySem.W.InstAt s.heap a oe D none := ⟨hget, hz.1, by unfold PySem.W.notCls; rw [hv] <;> rfl, by rw [hz.2]; trivial⟩
      exact PySem.W.kia_one (PySem.W.kitx_exc (od := none) hcl T.ga T.gg T.exC ha hn ht hm) I.kIn J e (fun z => nomatch z) fun tk => ⟨.bl b, H, I.kept (t' := tk) fun _ _ z => z, rfl, q⟩
end Gm
/-! sorted(d, reverse=b) of a dict whose keys are ints -/
namespace Gm
open PySem PySem.Spec PyProof.Rows L2
variable {X : Cx}
theorem cr_sortedDRev {b : Bool} (hcalm : X.calm = true) : CallRK X (.builtin "sorted") [Str.ofString "reverse"] (fun xs zs H Q => ∃ (a : Addr) (kvs : List (Key × V)) (ks : List Int), xs = [.ref a] ∧ zs = [.bl b] ∧ Rd H a (.dK kvs) ∧ kvs.map (·.1) = ks.map Sum.inl ∧ ks.length < 64 ∧
    ∀ (ys : List Int) (p : Addr), ys.Perm ks → OrdB b ys → H p = none → Q (.ref p) (upd H p (.lst (ys.map V.int)))) := by
  intro pins s σ H xs zs us ws Q I r rz q
  obtain ⟨a, kvs, ks, ex, ez, hd, hks, h64, q⟩ := q
  subst ex
  subst ez
  obtain ⟨u, eu, rx⟩ := vals1 r
  subst eu
  cases rx
  obtain ⟨w1, ew, rw1⟩ := vals1 rz
  subst ew
  obtain rfl : w1 = Value.bool b := rw1
  obtain ⟨z, lo, vs, rel, dd⟩ := dk_rd I.hok hd
  obtain ⟨ep, hat⟩ := dd.dictAt
  have hkeys : vs.map (·.1) = ks.map Sum.inl := rel.keys.symm.trans hks
  have hl : vs.length = ks.length := by
    have e := congrArg List.length hkeys
    rw [List.length_map, List.length_map] at e
    exact e
  have h16 : vs.length ≤ sizeLine := by rw [hl, sizeLine_eq]; omega
  refine PyProof.Rows.call_function_entry_kw PyProof.Rows.kind_sorted PyProof.Rows.plain_sorted PyProof.Rows.entry_sorted (PyProof.Rows.args_sorted_rev _ _) ?_
  unfold Builtin.«sorted»
  refine wpAny_bind (m := checkCount "sorted" 1 1 _) (wpAny_pure ?_)
  refine wpAny_bind (PySem.W.kdu_collect (A := X.A.in1) (PySem.W.kdl_dict (knd := mixKind X.prog X.w) (kvs := vs) (ep := ep) lo) (I.ok.hd hcalm) hat h16 fun h' tk acc hk hacc => ?_)
  have hal : acc.toList.length = ks.length := by rw [Array.length_toList, hacc.1, hl]
  have hS : IntsAre acc.toList ks := ints_each hal fun j v e => by
    obtain ⟨k, x, e1, e2⟩ := hacc.2 j v (by rw [← Array.getElem?_toList]; exact e)
    have e3 : (vs.map (·.1))[j]? = some k := by rw [List.getElem?_map, e1]; rfl
    rw [hkeys, List.getElem?_map] at e3
    cases e4 : ks[j]? with
    | none => rw [e4] at e3; cases e3
    | some y =>
      rw [e4] at e3
      have e5 : Sum.inl y = k := Option.some.inj e3
      subst e5
      rcases keyIs_shape (show keyIs (Sum.inl y) v = true from e2) with ⟨i, t, ek, ev⟩ | ⟨z, t, ek, ev⟩
      · cases ek
        exact ⟨y, t, rfl, ev⟩
      · cases ek
  have I1 : Inv X pins σ H { s with heap := h', toks := tk } := I.kept hk
  refine wpAny_bind (wpAny_newList ?_ (by rw [hal, sizeLine_eq]; omega))
  have hoL : (h'.push (seqObj "list" acc.toList.toArray 0)).get? h'.objs.size = some (seqObj "list" acc.toList.toArray 0) := Heap.get?_push_size _ rfl
  show wpAny _ _ _ _ _ { s with heap := h'.push (seqObj "list" acc.toList.toArray 0), toks := tk }
  refine wpAny_bind (wpAny_holding (PyProof.Rows.wpAny_call_entry_kw PyProof.Rows.slot_list_sort ⟨_, hoL, rfl⟩ PyProof.Rows.entry_list_sort ?_ (PyProof.Rows.args_list_sort_rev _ _)))
  refine SrtR.list_sort_ordR (b := b) SrtO.swo_int hoL (by rw [hal, sizeLine_eq]; omega) (fun h2 => SrtO.ints_sortable hS h2) fun out h1 h2 => ⟨_, rfl, ?_⟩
  obtain ⟨ns', k1, k2, k3⟩ := SrtR.ints_outR hS h1 h2
  obtain ⟨e', he'⟩ := PyProof.Rows.sortedHeap_at (vs := acc.toList) (out := (if b = true then out.toArray.reverse else out.toArray)) hoL
  have hlen : (ns'.map V.int).length ≤ sizeLine := by
    rw [List.length_map, k2.length_eq]
    exact Nat.le_trans (Nat.le_of_lt h64) (by decide)
  refine wpAny_pure ⟨_, rfl, .ref h'.objs.size, upd H h'.objs.size (.lst (ns'.map V.int)), I1.laid (t' := tk) (fun b u e => ?_) (Nat.le_refl _)
    (show ObjOk X.prog X.w _ _ _ (.lst (ns'.map V.int)) from ⟨hlen, _, e', vals_of_ints k1, by rw [Array.toArray_toList]; exact he'⟩), rfl, q ns' _ k2 k3 (I1.hok.fresh (Nat.le_refl _))⟩
  have hb : b < h'.objs.size := Heap.lt_size e
  rw [PyProof.Rows.sortedHeap_old (Nat.ne_of_lt hb) (by rw [size_push']; exact Nat.lt_succ_of_lt hb)]
  exact Heap.get?_push_of_some _ e
end Gm
/-! rows of integers in Hermite form: pivots, spans, sizes -/
namespace Gm
def mixR (a : Int) (x : List Int) (b : Int) (y : List Int) : List Int := List.zipWith (fun x y => a * x + b * y) x y
theorem mixR_len {a b : Int} {x y : List Int} {w : Nat} (hx : x.length = w) (hy : y.length = w) : (mixR a x b y).length = w := by
  unfold mixR
  rw [List.length_zipWith, hx, hy, Nat.min_self]
theorem getD_none {x : List Int} {j : Nat} (h : x.length ≤ j) : x.getD j 0 = 0 := by
  rw [List.getD_eq_getElem?_getD, List.getElem?_eq_none h]
  rfl
theorem mixR_get {a b : Int} {x y : List Int} {w : Nat} (hx : x.length = w) (hy : y.length = w) (j : Nat) : (mixR a x b y).getD j 0 = a * x.getD j 0 + b * y.getD j 0 := by
  by_cases h : j < w
  · unfold mixR
    rw [List.getD_eq_getElem?_getD, List.getElem?_zipWith, List.getElem?_eq_getElem (show j < x.length by omega), List.getElem?_eq_getElem (show j < y.length by omega), List.getD_eq_getElem?_getD, List.getD_eq_getElem?_getD, List.getElem?_eq_getElem (show j < x.length by omega), List.getElem?_eq_getElem (show j < y.length by omega)]
    rfl
  · rw [getD_none (by rw [mixR_len hx hy]; omega), getD_none (by omega), getD_none (by omega), Int.mul_zero, Int.mul_zero]
    rfl
theorem list_ext {x y : List Int} {w : Nat} (hx : x.length = w) (hy : y.length = w) (h : ∀ j, x.getD j 0 = y.getD j 0) : x = y := by
  apply List.ext_getElem (by omega)
  intro j h1 h2
  have := h j
  rw [List.getD_eq_getElem?_getD, List.getD_eq_getElem?_getD, List.getElem?_eq_getElem h1, List.getElem?_eq_getElem h2] at this
  exact this
/-! ### spans -/
def Spn : List (List Int) → (Nat → Int) → Prop
  | [], x => ∀ j, x j = 0
  | r :: R, x => ∃ a : Int, Spn R (fun j => x j - a * r.getD j 0)
theorem Spn.cong {R : List (List Int)} {x y : Nat → Int} (h : Spn R x) (e : ∀ j, x j = y j) : Spn R y := by
  have : x = y := funext e
  rw [← this]
  exact h
theorem Spn.zero : ∀ (R : List (List Int)), Spn R (fun _ => 0)
  | [] => fun _ => rfl
  | r :: R => ⟨0, (Spn.zero R).cong fun j => by rw [Int.zero_mul, Int.sub_zero]⟩
theorem Spn.add : ∀ {R : List (List Int)} {x y : Nat → Int}, Spn R x → Spn R y → Spn R (fun j => x j + y j)
  | [], x, y, h, k => fun j => by show x j + y j = 0; rw [h j, k j]; rfl
  | r :: R, x, y, ⟨a, h⟩, ⟨b, k⟩ => ⟨a + b, (Spn.add h k).cong fun j => by grind⟩
theorem Spn.smul (c : Int) : ∀ {R : List (List Int)} {x : Nat → Int}, Spn R x → Spn R (fun j => c * x j)
  | [], x, h => fun j => by show c * x j = 0; rw [h j, Int.mul_zero]
  | r :: R, x, ⟨a, h⟩ => ⟨c * a, (Spn.smul c h).cong fun j => by grind⟩
theorem Spn.tail {R : List (List Int)} {r : List Int} {x : Nat → Int} (h : Spn R x) : Spn (r :: R) x := ⟨0, h.cong fun j => by rw [Int.zero_mul, Int.sub_zero]⟩
theorem Spn.head (R : List (List Int)) (r : List Int) : Spn (r :: R) (fun j => r.getD j 0) := ⟨1, (Spn.zero R).cong fun j => by show (0 : Int) = r.getD j 0 - 1 * r.getD j 0; omega⟩
theorem Spn.mem : ∀ {R : List (List Int)} {r : List Int}, r ∈ R → Spn R (fun j => r.getD j 0)
  | q :: R, r, h => by
    rcases List.mem_cons.mp h with rfl | h
    · exact Spn.head R r
    · exact (Spn.mem h).tail
/-- a span within a span -/
theorem Spn.sub : ∀ {R S : List (List Int)} {x : Nat → Int}, (∀ r ∈ R, Spn S (fun j => r.getD j 0)) → Spn R x → Spn S x
  | [], S, x, _, h => (Spn.zero S).cong fun j => (h j).symm
  | r :: R, S, x, hs, ⟨a, h⟩ => ((Spn.sub (fun q hq => hs q (List.mem_cons_of_mem _ hq)) h).add ((hs r (List.mem_cons_self ..)).smul a)).cong fun j => by grind
theorem Spn.prop {R : List (List Int)} {x : Nat → Int} (P : (Nat → Int) → Prop) (h0 : P fun _ => 0) (ha : ∀ (x y : Nat → Int) (a : Int), P x → P y → P fun j => x j + a * y j) (hr : ∀ r ∈ R, P fun j => r.getD j 0) (h : Spn R x) : P x := by
  induction R generalizing x with
  | nil =>
    have : x = fun _ => 0 := funext h
    rw [this]
    exact h0
  | cons r R ih =>
    obtain ⟨a, h⟩ := h
    have h1 := ih (fun q hq => hr q (List.mem_cons_of_mem _ hq)) h
    have h2 := ha _ _ a h1 (hr r (List.mem_cons_self ..))
    have e : (fun j => x j - a * r.getD j 0 + a * r.getD j 0) = x := funext fun j => by omega
    rwa [e] at h2
/-! ### pivots -/
abbrev Tops := List (Nat × List Int)
abbrev rowsT (T : Tops) : List (List Int) := T.map (·.2)
structure Pv (w : Nat) (p : Nat × List Int) : Prop where
  lt : p.1 < w
  len : p.2.length = w
  zero : ∀ j, j < p.1 → p.2.getD j 0 = 0
  pos : 0 < p.2.getD p.1 0
structure Ech (w : Nat) (T : Tops) : Prop where
  asc : T.Pairwise fun p q => p.1 < q.1
  pv : ∀ p ∈ T, Pv w p
theorem Ech.tail {w : Nat} {p : Nat × List Int} {T : Tops} (h : Ech w (p :: T)) : Ech w T := ⟨(List.pairwise_cons.mp h.asc).2, fun q hq => h.pv q (List.mem_cons_of_mem _ hq)⟩
theorem Ech.head {w : Nat} {p : Nat × List Int} {T : Tops} (h : Ech w (p :: T)) : Pv w p ∧ ∀ q ∈ T, p.1 < q.1 := ⟨h.pv p (List.mem_cons_self ..), (List.pairwise_cons.mp h.asc).1⟩
theorem Ech.cons {w : Nat} {p : Nat × List Int} {T : Tops} (h : Ech w T) (hp : Pv w p) (hl : ∀ q ∈ T, p.1 < q.1) : Ech w (p :: T) := ⟨List.pairwise_cons.mpr ⟨hl, h.asc⟩, fun q hq => by
  rcases List.mem_cons.mp hq with rfl | hq
  · exact hp
  · exact h.pv q hq⟩
/-- what lies in the span of pivots behind c is zero up to c -/
theorem Ech.zero {w c : Nat} : ∀ {T : Tops}, Ech w T → (∀ q ∈ T, c < q.1) → ∀ {x : Nat → Int}, Spn (rowsT T) x → ∀ j, j ≤ c → x j = 0
  | [], _, _, x, h, j, _ => h j
  | p :: T, E, hc, x, ⟨a, h⟩, j, hj => by
    have h1 := Ech.zero E.tail (fun q hq => hc q (List.mem_cons_of_mem _ hq)) h j hj
    have h2 := E.head.1.zero j (by have := hc p (List.mem_cons_self ..); omega)
    rw [h2, Int.mul_zero, Int.sub_zero] at h1
    exact h1
/-- the first item of a combination is a multiple of a pivot -/
theorem Ech.lead {w : Nat} : ∀ {T : Tops}, Ech w T → ∀ {x : Nat → Int} {c : Nat}, Spn (rowsT T) x → (∀ j, j < c → x j = 0) → x c ≠ 0 → ∃ p ∈ T, p.1 = c ∧ p.2.getD c 0 ∣ x c
  | [], _, x, c, h, _, hn => absurd (h c) hn
  | p :: T, E, x, c, ⟨a, h⟩, hz, hn => by
    obtain ⟨hp, hl⟩ := E.head
    have hp1 := Ech.zero E.tail hl h p.1 (Nat.le_refl _)
    have hp1 : x p.1 = a * p.2.getD p.1 0 := by have : x p.1 - a * p.2.getD p.1 0 = 0 := hp1; omega
    by_cases ha : a = 0
    · subst ha
      have e : ∀ j, x j - 0 * p.2.getD j 0 = x j := fun j => by rw [Int.zero_mul, Int.sub_zero]
      obtain ⟨q, hq, e1, e2⟩ := Ech.lead E.tail (h.cong e) hz hn
      exact ⟨q, List.mem_cons_of_mem _ hq, e1, e2⟩
    · have h0 : x p.1 ≠ 0 := by
        rw [hp1]
        exact Int.mul_ne_zero ha (by have := hp.pos; omega)
      have h1 : ∀ j, j < p.1 → x j = 0 := fun j hj => by
        have h2 : x j - a * p.2.getD j 0 = 0 := Ech.zero E.tail hl h j (by omega)
        rw [hp.zero j hj, Int.mul_zero, Int.sub_zero] at h2
        exact h2
      have ec : p.1 = c := by
        rcases Nat.lt_trichotomy p.1 c with hlt | heq | hgt
        · exact absurd (hz _ hlt) h0
        · exact heq
        · exact absurd (h1 c hgt) hn
      subst ec
      exact ⟨p, List.mem_cons_self .., rfl, ⟨a, by rw [hp1, Int.mul_comm]⟩⟩
/-- each pivot is in the range of those behind it -/
def Tid : Tops → Prop
  | [] => True
  | p :: T => (∀ q ∈ T, 0 ≤ p.2.getD q.1 0 ∧ p.2.getD q.1 0 < q.2.getD q.1 0) ∧ Tid T
/-- the Hermite form is one alone -/
theorem herm_uniq {w : Nat} : ∀ {T S : Tops}, Ech w T → Ech w S → Tid T → Tid S → (∀ x, Spn (rowsT T) x ↔ Spn (rowsT S) x) → T = S
  | [], [], _, _, _, _, _ => rfl
  | [], q :: S, _, E', _, _, h => by
    obtain ⟨hq, _⟩ := E'.head
    have h1 : Spn (rowsT ([] : Tops)) (fun j => q.2.getD j 0) := (h _).mpr (Spn.head _ _)
    have h2 : q.2.getD q.1 0 = 0 := h1 q.1
    have h3 := hq.pos
    omega
  | p :: T, [], E, _, _, _, h => by
    obtain ⟨hq, _⟩ := E.head
    have h1 : Spn (rowsT ([] : Tops)) (fun j => p.2.getD j 0) := (h _).mp (Spn.head _ _)
    have h2 : p.2.getD p.1 0 = 0 := h1 p.1
    have h3 := hq.pos
    omega
  | p :: T, q :: S, E, E', t, t', h => by
    obtain ⟨hp, hpl⟩ := E.head
    obtain ⟨hq, hql⟩ := E'.head
    -- the first pivot of one is a pivot of the other
    have side : ∀ {p q : Nat × List Int} {T S : Tops}, Ech w (p :: T) → Ech w (q :: S) → (∀ x, Spn (rowsT (p :: T)) x ↔ Spn (rowsT (q :: S)) x) → q.1 ≤ p.1 := fun {p q T S} E E' h => by
      obtain ⟨hp, hpl⟩ := E.head
      have h1 := (h _).mp (Spn.head (rowsT T) p.2)
      obtain ⟨r, hr, er, _⟩ := Ech.lead E' h1 (fun j hj => hp.zero j hj) (by have := hp.pos; omega)
      rcases List.mem_cons.mp hr with rfl | hr
      · omega
      · have := E'.head.2 r hr
        omega
    have ec : p.1 = q.1 := Nat.le_antisymm (side E' E fun x => (h x).symm) (side E E' h)
    -- and of the same size
    have dv : ∀ {p q : Nat × List Int} {T S : Tops}, Ech w (p :: T) → Ech w (q :: S) → (∀ x, Spn (rowsT (p :: T)) x ↔ Spn (rowsT (q :: S)) x) → p.1 = q.1 → q.2.getD q.1 0 ∣ p.2.getD p.1 0 := fun {p q T S} E E' h ec => by
      obtain ⟨hp, hpl⟩ := E.head
      have h1 := (h _).mp (Spn.head (rowsT T) p.2)
      obtain ⟨r, hr, er, hd⟩ := Ech.lead E' h1 (fun j hj => hp.zero j hj) (by have := hp.pos; omega)
      rcases List.mem_cons.mp hr with rfl | hr
      · rw [← er] at hd ⊢
        exact hd
      · have := E'.head.2 r hr
        omega
    have ep : p.2.getD p.1 0 = q.2.getD q.1 0 := by
      have d1 := dv E E' h ec
      have d2 := dv E' E (fun x => (h x).symm) ec.symm
      exact Int.dvd_antisymm (Int.le_of_lt hp.pos) (Int.le_of_lt hq.pos) d2 d1
    -- the rest spans the same
    have rest : ∀ {p q : Nat × List Int} {T S : Tops}, Ech w (p :: T) → Ech w (q :: S) → (∀ x, Spn (rowsT (p :: T)) x → Spn (rowsT (q :: S)) x) → p.1 = q.1 → ∀ x, Spn (rowsT T) x → Spn (rowsT S) x := fun {p q T S} E E' h ec x hx => by
      obtain ⟨hp, hpl⟩ := E.head
      obtain ⟨hq, hql⟩ := E'.head
      have x0 := Ech.zero E.tail hpl hx p.1 (Nat.le_refl _)
      obtain ⟨a, ha⟩ := h x hx.tail
      have h1 : x q.1 - a * q.2.getD q.1 0 = 0 := Ech.zero E'.tail hql ha q.1 (Nat.le_refl _)
      rw [← ec, x0] at h1
      have a0 : a = 0 := by
        rcases Int.mul_eq_zero.mp (show a * q.2.getD q.1 0 = 0 by rw [ec] at h1; omega) with h2 | h2
        · exact h2
        · have := hq.pos
          omega
      subst a0
      exact ha.cong fun j => by rw [Int.zero_mul, Int.sub_zero]
    have hT : ∀ x, Spn (rowsT T) x ↔ Spn (rowsT S) x := fun x => ⟨rest E E' (fun x => (h x).mp) ec x, rest E' E (fun x => (h x).mpr) ec.symm x⟩
    have eT := herm_uniq E.tail E'.tail t.2 t'.2 hT
    subst eT
    -- the first rows
    have hd : Spn (rowsT T) (fun j => p.2.getD j 0 - q.2.getD j 0) := by
      obtain ⟨a, ha⟩ := (h _).mp (Spn.head (rowsT T) p.2)
      have h1 : p.2.getD q.1 0 - a * q.2.getD q.1 0 = 0 := Ech.zero E.tail hql ha q.1 (Nat.le_refl _)
      have a1 : a = 1 := by
        rw [← ec, ep, ec] at h1
        have hq0 := hq.pos
        have : (1 - a) * q.2.getD q.1 0 = 0 := by rw [Int.sub_mul, Int.one_mul]; exact h1
        rcases Int.mul_eq_zero.mp this with h2 | h2
        · omega
        · omega
      subst a1
      exact ha.cong fun j => by rw [Int.one_mul]
    have hz : ∀ j, p.2.getD j 0 - q.2.getD j 0 = 0 := by
      by_cases hall : ∀ j, p.2.getD j 0 - q.2.getD j 0 = 0
      · exact hall
      · exfalso
        have hex : ∃ j, p.2.getD j 0 - q.2.getD j 0 ≠ 0 := Classical.not_forall.mp hall
        -- the least one
        have least : ∀ n, (∃ j, j < n ∧ p.2.getD j 0 - q.2.getD j 0 ≠ 0) → ∃ c, p.2.getD c 0 - q.2.getD c 0 ≠ 0 ∧ ∀ j, j < c → p.2.getD j 0 - q.2.getD j 0 = 0 := fun n => by
          induction n with
          | zero => rintro ⟨j, hj, _⟩; exact absurd hj (Nat.not_lt_zero _)
          | succ n ih =>
            rintro ⟨j, hj, hn⟩
            by_cases hs : ∃ j, j < n ∧ p.2.getD j 0 - q.2.getD j 0 ≠ 0
            · exact ih hs
            · refine ⟨j, hn, fun k hk => ?_⟩
              by_cases hk0 : p.2.getD k 0 - q.2.getD k 0 = 0
              · exact hk0
              · exact absurd ⟨k, by omega, hk0⟩ hs
        obtain ⟨j, hj⟩ := hex
        obtain ⟨c, hc, hl⟩ := least (j + 1) ⟨j, Nat.lt_succ_self _, hj⟩
        obtain ⟨r, hr, er, ⟨k, hk⟩⟩ := Ech.lead E.tail hd hl hc
        have b1 := t.1 r hr
        have b2 := t'.1 r hr
        rw [er] at b1 b2
        have hk0 : k = 0 := by
          rcases Int.lt_trichotomy k 0 with h1 | h1 | h1
          · have : r.2.getD c 0 * k ≤ r.2.getD c 0 * (-1) := Int.mul_le_mul_of_nonneg_left (by omega) (by omega)
            omega
          · exact h1
          · have : r.2.getD c 0 * 1 ≤ r.2.getD c 0 * k := Int.mul_le_mul_of_nonneg_left (by omega) (by omega)
            omega
        rw [hk0, Int.mul_zero] at hk
        exact hc hk
    have er : p.2 = q.2 := list_ext hp.len hq.len fun j => by have := hz j; omega
    have : p = q := by
      cases p
      cases q
      simp only at ec er
      rw [ec, er]
    rw [this]
end Gm
/-! reducing by pivots, tidying, and the sizes -/
namespace Gm
def redT : Tops → List Int → List Int
  | [], row => row
  | p :: T, row => redT T (if row.getD p.1 0 / p.2.getD p.1 0 ≠ 0 then mixR 1 row (-(row.getD p.1 0 / p.2.getD p.1 0)) p.2 else row)
def tidyT : Tops → Tops
  | [] => []
  | p :: T => (p.1, redT (tidyT T) p.2) :: tidyT T
def red1 (p : Nat × List Int) (row : List Int) : List Int := if row.getD p.1 0 / p.2.getD p.1 0 ≠ 0 then mixR 1 row (-(row.getD p.1 0 / p.2.getD p.1 0)) p.2 else row
theorem redT_cons (p : Nat × List Int) (T : Tops) (row : List Int) : redT (p :: T) row = redT T (red1 p row) := rfl
theorem red1_len {p : Nat × List Int} {row : List Int} {w : Nat} (hp : p.2.length = w) (hr : row.length = w) : (red1 p row).length = w := by
  unfold red1
  split
  · exact mixR_len hr hp
  · exact hr
theorem red1_get {p : Nat × List Int} {row : List Int} {w : Nat} (hp : p.2.length = w) (hr : row.length = w) (j : Nat) : (red1 p row).getD j 0 = row.getD j 0 - row.getD p.1 0 / p.2.getD p.1 0 * p.2.getD j 0 := by
  unfold red1
  split
  · rw [mixR_get hr hp, Int.one_mul, Int.neg_mul]
    omega
  · rename_i h
    have h0 : row.getD p.1 0 / p.2.getD p.1 0 = 0 := by omega
    rw [h0, Int.zero_mul, Int.sub_zero]
theorem redT_len {w : Nat} : ∀ {T : Tops} {row : List Int}, (∀ p ∈ T, p.2.length = w) → row.length = w → (redT T row).length = w
  | [], _, _, h => h
  | p :: T, row, hT, h => redT_len (T := T) (row := red1 p row) (fun q hq => hT q (List.mem_cons_of_mem _ hq)) (red1_len (hT p (List.mem_cons_self ..)) h)
theorem redT_span {w : Nat} : ∀ {T : Tops} {row : List Int}, (∀ p ∈ T, p.2.length = w) → row.length = w → Spn (rowsT T) (fun j => row.getD j 0 - (redT T row).getD j 0)
  | [], row, _, _ => fun j => by show row.getD j 0 - row.getD j 0 = 0; omega
  | p :: T, row, hT, h => by
    have hp := hT p (List.mem_cons_self ..)
    have ih := redT_span (T := T) (row := red1 p row) (fun q hq => hT q (List.mem_cons_of_mem _ hq)) (red1_len hp h)
    refine ⟨row.getD p.1 0 / p.2.getD p.1 0, ih.cong fun j => ?_⟩
    rw [red1_get hp h]
    show row.getD j 0 - row.getD p.1 0 / p.2.getD p.1 0 * p.2.getD j 0 - (redT T (red1 p row)).getD j 0 = row.getD j 0 - (redT (p :: T) row).getD j 0 - row.getD p.1 0 / p.2.getD p.1 0 * p.2.getD j 0
    rw [redT_cons]
    omega
/-- columns that are zero in all pivots' rows stay -/
theorem redT_col {w : Nat} {j : Nat} : ∀ {T : Tops} {row : List Int}, (∀ p ∈ T, p.2.length = w ∧ p.2.getD j 0 = 0) → row.length = w → (redT T row).getD j 0 = row.getD j 0
  | [], _, _, _ => rfl
  | p :: T, row, hT, h => by
    obtain ⟨hp, h0⟩ := hT p (List.mem_cons_self ..)
    rw [redT_cons, redT_col (T := T) (row := red1 p row) (fun q hq => hT q (List.mem_cons_of_mem _ hq)) (red1_len hp h), red1_get hp h, h0, Int.mul_zero, Int.sub_zero]
theorem redT_before {w c : Nat} {T : Tops} {row : List Int} (E : Ech w T) (hc : ∀ p ∈ T, c < p.1) (h : row.length = w) {j : Nat} (hj : j ≤ c) : (redT T row).getD j 0 = row.getD j 0 :=
  redT_col (fun p hp => ⟨(E.pv p hp).len, (E.pv p hp).zero j (by have := hc p hp; omega)⟩) h
theorem redT_app : ∀ (T S : Tops) (row : List Int), redT (T ++ S) row = redT S (redT T row)
  | [], _, _ => rfl
  | p :: T, S, row => by
    rw [List.cons_append, redT_cons, redT_cons, redT_app]
theorem redT_skip {row : List Int} : ∀ {T : Tops}, (∀ p ∈ T, row.getD p.1 0 = 0) → redT T row = row
  | [], _ => rfl
  | p :: T, h => by
    have h0 := h p (List.mem_cons_self ..)
    have e : red1 p row = row := by
      unfold red1
      rw [h0, Int.zero_ediv, if_neg (fun z => z rfl)]
    rw [redT_cons, e]
    exact redT_skip fun q hq => h q (List.mem_cons_of_mem _ hq)
/-- behind the reduction each pivot's item is in its range -/
theorem redT_range {w : Nat} : ∀ {T : Tops} {row : List Int}, Ech w T → row.length = w → ∀ p ∈ T, 0 ≤ (redT T row).getD p.1 0 ∧ (redT T row).getD p.1 0 < p.2.getD p.1 0
  | q :: T, row, E, h, p, hp => by
    obtain ⟨hq, hl⟩ := E.head
    rw [redT_cons]
    rcases List.mem_cons.mp hp with rfl | hp
    · rw [redT_before E.tail hl (red1_len hq.len h) (Nat.le_refl _), red1_get hq.len h]
      have h1 := Int.emod_nonneg (row.getD p.1 0) (show p.2.getD p.1 0 ≠ 0 by have := hq.pos; omega)
      have h2 := Int.emod_lt_of_pos (row.getD p.1 0) hq.pos
      have h3 := Int.emod_def (row.getD p.1 0) (p.2.getD p.1 0)
      rw [Int.mul_comm] at h3
      omega
    · exact redT_range E.tail (red1_len hq.len h) p hp
theorem tidyT_keys : ∀ (T : Tops), (tidyT T).map (·.1) = T.map (·.1)
  | [] => rfl
  | p :: T => by
    show p.1 :: (tidyT T).map (·.1) = p.1 :: T.map (·.1)
    rw [tidyT_keys T]
theorem tidyT_len (T : Tops) : (tidyT T).length = T.length := by
  have := congrArg List.length (tidyT_keys T)
  rwa [List.length_map, List.length_map] at this
theorem keys_lt {c : Nat} {T S : Tops} (h : T.map (·.1) = S.map (·.1)) (hc : ∀ p ∈ S, c < p.1) : ∀ p ∈ T, c < p.1 := fun p hp => by
  have : p.1 ∈ S.map (·.1) := by rw [← h]; exact List.mem_map.mpr ⟨p, hp, rfl⟩
  obtain ⟨q, hq, e⟩ := List.mem_map.mp this
  rw [← e]
  exact hc q hq
theorem tidyT_ech {w : Nat} : ∀ {T : Tops}, Ech w T → Ech w (tidyT T)
  | [], E => E
  | p :: T, E => by
    obtain ⟨hp, hl⟩ := E.head
    have ih := tidyT_ech E.tail
    have hl' := keys_lt (tidyT_keys T) hl
    refine ih.cons ⟨hp.lt, redT_len (fun q hq => (ih.pv q hq).len) hp.len, fun j hj => ?_, ?_⟩ hl'
    · show (redT (tidyT T) p.2).getD j 0 = 0
      rw [redT_before ih hl' hp.len (show j ≤ p.1 by omega)]
      exact hp.zero j hj
    · show 0 < (redT (tidyT T) p.2).getD p.1 0
      rw [redT_before ih hl' hp.len (Nat.le_refl _)]
      exact hp.pos
theorem tidyT_tid {w : Nat} : ∀ {T : Tops}, Ech w T → Tid (tidyT T)
  | [], _ => trivial
  | p :: T, E => ⟨fun q hq => redT_range (tidyT_ech E.tail) E.head.1.len q hq, tidyT_tid E.tail⟩
theorem tidyT_span {w : Nat} : ∀ {T : Tops}, Ech w T → ∀ x, Spn (rowsT (tidyT T)) x ↔ Spn (rowsT T) x
  | [], _, x => Iff.rfl
  | p :: T, E, x => by
    have ih := tidyT_span E.tail
    obtain ⟨hp, hl⟩ := E.head
    have E' := tidyT_ech E.tail
    have hs := redT_span (T := tidyT T) (row := p.2) (fun q hq => (E'.pv q hq).len) hp.len
    constructor
    · refine Spn.sub fun r hr => ?_
      rcases List.mem_cons.mp hr with rfl | hr
      · have h1 := (Spn.head (rowsT T) p.2).add (((ih _).mp hs).smul (-1)).tail
        exact h1.cong fun j => by show p.2.getD j 0 + -1 * (p.2.getD j 0 - (redT (tidyT T) p.2).getD j 0) = (redT (tidyT T) p.2).getD j 0; omega
      · exact ((ih _).mp (Spn.mem hr)).tail
    · refine Spn.sub fun r hr => ?_
      rcases List.mem_cons.mp hr with rfl | hr
      · have h1 := (Spn.head (rowsT (tidyT T)) (redT (tidyT T) p.2)).add hs.tail
        exact h1.cong fun j => by show (redT (tidyT T) p.2).getD j 0 + (p.2.getD j 0 - (redT (tidyT T) p.2).getD j 0) = p.2.getD j 0; omega
      · exact ((ih _).mpr (Spn.mem hr)).tail
/-! ### sizes -/
def Cost (c : Nat) (r : List Int) : Prop := ∀ x ∈ r, 2 * x.natAbs < 2 ^ c
theorem Cost.at {c : Nat} {r : List Int} (h : Cost c r) (j : Nat) : 2 * (r.getD j 0).natAbs < 2 ^ c := by
  by_cases hj : j < r.length
  · rw [List.getD_eq_getElem?_getD, List.getElem?_eq_getElem hj]
    exact h _ (List.getElem_mem hj)
  · rw [getD_none (by omega)]
    exact Nat.pow_pos (by decide)
theorem Cost.up {c d : Nat} {r : List Int} (h : Cost c r) (hd : c ≤ d) : Cost d r := fun x hx => Nat.lt_of_lt_of_le (h x hx) (Nat.pow_le_pow_right (by decide) hd)
/-- a sum of two products -/
theorem cost_mix {a b x y : Int} {A B : Nat} (ha : 2 * a.natAbs < 2 ^ A) (hx : 2 * x.natAbs < 2 ^ B) (hb : 2 * b.natAbs < 2 ^ B) (hy : 2 * y.natAbs < 2 ^ A) : 2 * (a * x + b * y).natAbs < 2 ^ (A + B) := by
  have h1 : 4 * (a * x).natAbs < 2 ^ (A + B) := by
    rw [Nat.pow_add, Int.natAbs_mul]
    have := Nat.mul_lt_mul'' ha hx
    rw [show 2 * a.natAbs * (2 * x.natAbs) = 4 * (a.natAbs * x.natAbs) by rw [Nat.mul_mul_mul_comm]] at this
    exact this
  have h2 : 4 * (b * y).natAbs < 2 ^ (A + B) := by
    rw [Nat.pow_add, Nat.mul_comm (2 ^ A), Int.natAbs_mul]
    have := Nat.mul_lt_mul'' hb hy
    rw [show 2 * b.natAbs * (2 * y.natAbs) = 4 * (b.natAbs * y.natAbs) by rw [Nat.mul_mul_mul_comm]] at this
    exact this
  have h3 := Int.natAbs_add_le (a * x) (b * y)
  omega
theorem mixR_cost {a b : Int} {x y : List Int} {A B : Nat} (ha : 2 * a.natAbs < 2 ^ A) (hx : Cost B x) (hb : 2 * b.natAbs < 2 ^ B) (hy : Cost A y) : Cost (A + B) (mixR a x b y) := fun z hz => by
  unfold mixR at hz
  obtain ⟨i, ei⟩ := List.getElem?_of_mem hz
  rw [List.getElem?_zipWith] at ei
  cases e1 : x[i]? with
  | none => rw [e1] at ei; cases ei
  | some p =>
    cases e2 : y[i]? with
    | none => rw [e1, e2] at ei; cases ei
    | some q =>
      rw [e1, e2] at ei
      have ei : a * p + b * q = z := Option.some.inj ei
      rw [← ei]
      exact cost_mix ha (hx p (List.mem_of_getElem? e1)) hb (hy q (List.mem_of_getElem? e2))
theorem red1_cost {p : Nat × List Int} {row : List Int} {A B : Nat} (hp : Cost A p.2) (hr : Cost B row) (hpos : 0 < p.2.getD p.1 0) : Cost (A + B) (red1 p row) := by
  unfold red1
  split
  · have h1 : 2 * (1 : Int).natAbs < 2 ^ A ∨ ¬ 2 * (1 : Int).natAbs < 2 ^ A := Decidable.em _
    have hA : 2 * (p.2.getD p.1 0).natAbs < 2 ^ A := hp.at p.1
    have hq : 2 * (-(row.getD p.1 0 / p.2.getD p.1 0)).natAbs < 2 ^ B := by
      rw [Int.natAbs_neg]
      have := Int.natAbs_ediv_le_natAbs (row.getD p.1 0) (p.2.getD p.1 0)
      have := hr.at p.1
      omega
    exact mixR_cost (by have : 1 ≤ (p.2.getD p.1 0).natAbs := by omega
                        show 2 * 1 < _
                        omega) hr hq hp
  · exact hr.up (by omega)
/-- costs that double from the last row on -/
def Geo (B : Nat) : Tops → Prop
  | [] => True
  | p :: T => Cost (2 ^ T.length * B) p.2 ∧ Geo B T
theorem redT_geo {w B : Nat} : ∀ {T : Tops} {row : List Int} {ρ : Nat}, Ech w T → Geo B T → Cost ρ row → Cost (ρ + (2 ^ T.length - 1) * B) (redT T row)
  | [], row, ρ, _, _, h => by
    show Cost (ρ + (1 - 1) * B) row
    rw [Nat.sub_self, Nat.zero_mul]
    exact h
  | p :: T, row, ρ, E, g, h => by
    rw [redT_cons]
    refine (redT_geo E.tail g.2 (red1_cost g.1 h E.head.1.pos)).up ?_
    rw [List.length_cons, Nat.pow_succ]
    have h1 : 1 ≤ 2 ^ T.length := Nat.pow_pos (by decide)
    generalize 2 ^ T.length = k at h1
    rw [Nat.sub_mul, Nat.sub_mul]
    have : B ≤ k * B := Nat.le_mul_of_pos_left B h1
    rw [Nat.mul_right_comm, Nat.one_mul]
    omega
theorem redT_cost {w B : Nat} : ∀ {T : Tops} {row : List Int} {ρ : Nat}, Ech w T → (∀ p ∈ T, Cost B p.2) → Cost ρ row → Cost (ρ + T.length * B) (redT T row)
  | [], row, ρ, _, _, h => by
    show Cost (ρ + 0 * B) row
    rw [Nat.zero_mul]
    exact h
  | p :: T, row, ρ, E, g, h => by
    rw [redT_cons]
    refine (redT_cost E.tail (fun q hq => g q (List.mem_cons_of_mem _ hq)) (red1_cost (g p (List.mem_cons_self ..)) h E.head.1.pos)).up ?_
    rw [List.length_cons, Nat.add_mul]
    omega
theorem tidyT_geo {w B : Nat} : ∀ {T : Tops}, Ech w T → (∀ p ∈ T, Cost B p.2) → Geo B (tidyT T)
  | [], _, _ => trivial
  | p :: T, E, h => by
    have ih := tidyT_geo E.tail fun q hq => h q (List.mem_cons_of_mem _ hq)
    refine ⟨(redT_geo (tidyT_ech E.tail) ih (h p (List.mem_cons_self ..))).up ?_, ih⟩
    rw [tidyT_len]
    have h1 : 1 ≤ 2 ^ T.length := Nat.pow_pos (by decide)
    generalize 2 ^ T.length = k at h1
    rw [Nat.sub_mul]
    have : B ≤ k * B := Nat.le_mul_of_pos_left B h1
    omega
theorem Geo.all {B : Nat} : ∀ {T : Tops}, Geo B T → ∀ p ∈ T, Cost (2 ^ (T.length - 1) * B) p.2
  | q :: T, g, p, hp => by
    rcases List.mem_cons.mp hp with rfl | hp
    · exact g.1
    · refine (Geo.all g.2 p hp).up (Nat.mul_le_mul_right B (Nat.pow_le_pow_right (by decide) ?_))
      rw [List.length_cons]
      omega
theorem tidyT_cost {w B : Nat} {T : Tops} (E : Ech w T) (h : ∀ p ∈ T, Cost B p.2) : ∀ p ∈ tidyT T, Cost (2 ^ (T.length - 1) * B) p.2 := by
  have := (tidyT_geo E h).all
  rwa [tidyT_len] at this
end Gm
/-! one more row for the pivots -/
namespace Gm
def insK (j : Nat) (r : List Int) : Tops → Tops
  | [] => [(j, r)]
  | p :: T => if p.1 < j then p :: insK j r T else (j, r) :: p :: T
def setK (j : Nat) (t : List Int) (T : Tops) : Tops := T.map fun p => if p.1 = j then (j, t) else p
theorem mem_insK {j : Nat} {r : List Int} {q : Nat × List Int} : ∀ {T : Tops}, q ∈ insK j r T ↔ q = (j, r) ∨ q ∈ T
  | [] => by simp [insK]
  | p :: T => by
    unfold insK
    split
    · rw [List.mem_cons, mem_insK, List.mem_cons]
      constructor
      · rintro (h | h | h)
        · exact .inr (.inl h)
        · exact .inl h
        · exact .inr (.inr h)
      · rintro (h | h | h)
        · exact .inr (.inl h)
        · exact .inl h
        · exact .inr (.inr h)
    · rw [List.mem_cons]
theorem insK_len {j : Nat} {r : List Int} : ∀ {T : Tops}, (insK j r T).length = T.length + 1
  | [] => rfl
  | p :: T => by
    unfold insK
    split
    · rw [List.length_cons, insK_len, List.length_cons]
    · rfl
theorem insK_ech {w j : Nat} {r : List Int} : ∀ {T : Tops}, Ech w T → Pv w (j, r) → (∀ p ∈ T, p.1 ≠ j) → Ech w (insK j r T)
  | [], E, hp, _ => E.cons hp fun q hq => (by cases hq)
  | p :: T, E, hp, hn => by
    obtain ⟨h1, hl⟩ := E.head
    unfold insK
    split
    · rename_i hlt
      refine (insK_ech E.tail hp fun q hq => hn q (List.mem_cons_of_mem _ hq)).cons h1 fun q hq => ?_
      rcases mem_insK.mp hq with rfl | hq
      · exact hlt
      · exact hl q hq
    · rename_i hge
      have h2 := hn p (List.mem_cons_self ..)
      refine E.cons hp fun q hq => ?_
      rcases List.mem_cons.mp hq with rfl | hq
      · show j < q.1
        omega
      · have := hl q hq
        show j < q.1
        omega
theorem setK_keys (j : Nat) (t : List Int) (T : Tops) : (setK j t T).map (·.1) = T.map (·.1) := by
  unfold setK
  rw [List.map_map]
  refine List.map_congr_left fun p _ => ?_
  show (if p.1 = j then (j, t) else p).1 = p.1
  split
  · rename_i h
    exact h.symm
  · rfl
theorem setK_len (j : Nat) (t : List Int) (T : Tops) : (setK j t T).length = T.length := List.length_map ..
theorem mem_setK {j : Nat} {t : List Int} {T : Tops} {q : Nat × List Int} (h : q ∈ setK j t T) : q = (j, t) ∨ (q ∈ T ∧ q.1 ≠ j) := by
  obtain ⟨p, hp, rfl⟩ := List.mem_map.mp h
  show (if p.1 = j then (j, t) else p) = (j, t) ∨ _
  split
  · exact .inl rfl
  · rename_i hn
    exact .inr ⟨hp, hn⟩
theorem setK_at {j : Nat} {t : List Int} {T : Tops} {p : Nat × List Int} (h : p ∈ T) (e : p.1 = j) : (j, t) ∈ setK j t T := List.mem_map.mpr ⟨p, h, by rw [if_pos e]⟩
theorem setK_off {j : Nat} {t : List Int} {T : Tops} {p : Nat × List Int} (h : p ∈ T) (e : p.1 ≠ j) : p ∈ setK j t T := List.mem_map.mpr ⟨p, h, by rw [if_neg e]⟩
theorem setK_ech {w j : Nat} {t : List Int} {T : Tops} (E : Ech w T) (hp : Pv w (j, t)) : Ech w (setK j t T) := by
  refine ⟨?_, fun q hq => ?_⟩
  · have h := E.asc
    have h1 : (T.map (·.1)).Pairwise (· < ·) := List.pairwise_map.mpr h
    rw [← setK_keys j t T] at h1
    exact List.pairwise_map.mp h1
  · rcases mem_setK hq with rfl | ⟨h, _⟩
    · exact hp
    · exact E.pv q h
theorem key_one {w : Nat} {T : Tops} (E : Ech w T) {p q : Nat × List Int} (hp : p ∈ T) (hq : q ∈ T) (e : p.1 = q.1) : p = q := by
  induction T with
  | nil => cases hp
  | cons a T ih =>
    obtain ⟨_, hl⟩ := E.head
    rcases List.mem_cons.mp hp with rfl | hp1
    · rcases List.mem_cons.mp hq with rfl | hq
      · rfl
      · have := hl q hq
        omega
    · skip
      rcases List.mem_cons.mp hq with e1 | hq1
      · have := hl p hp1
        rw [e1] at e
        omega
      · exact ih E.tail hp1 hq1
/-! ### the number of the pivots from a column on -/
def cnt (j : Nat) (T : Tops) : Nat := (T.filter fun p => decide (j ≤ p.1)).length
theorem cnt_0 (T : Tops) : cnt 0 T = T.length := by
  unfold cnt
  rw [List.filter_eq_self.mpr fun p _ => decide_eq_true (Nat.zero_le _)]
theorem cnt_keys {j : Nat} {T S : Tops} (h : T.map (·.1) = S.map (·.1)) : cnt j T = cnt j S := by
  have e : ∀ T : Tops, cnt j T = ((T.map (·.1)).filter fun c => decide (j ≤ c)).length := fun T => by
    unfold cnt
    rw [List.filter_map, List.length_map]
    rfl
  rw [e, e, h]
theorem cnt_le (j : Nat) (T : Tops) : cnt j T ≤ T.length := List.length_filter_le ..
theorem cnt_step_off {j : Nat} {T : Tops} (h : ∀ p ∈ T, p.1 ≠ j) : cnt (j + 1) T = cnt j T := by
  unfold cnt
  rw [List.filter_congr fun p hp => ?_]
  have := h p hp
  exact decide_eq_decide.mpr (by omega)
theorem cnt_step_at {w j : Nat} : ∀ {T : Tops}, Ech w T → ∀ {p : Nat × List Int}, p ∈ T → p.1 = j → cnt j T = cnt (j + 1) T + 1
  | q :: T, E, p, hp, e => by
    obtain ⟨_, hl⟩ := E.head
    rcases List.mem_cons.mp hp with rfl | hp
    · have h1 : cnt (j + 1) T = cnt j T := cnt_step_off fun r hr => by have := hl r hr; omega
      unfold cnt at h1 ⊢
      rw [List.filter_cons, if_pos (decide_eq_true (by omega)), List.filter_cons, if_neg (by simpa using (show ¬ (j + 1 ≤ p.1) by omega)), List.length_cons, h1]
    · have ih := cnt_step_at E.tail hp e
      have h2 := hl p hp
      unfold cnt at ih ⊢
      rw [List.filter_cons, if_neg (by simpa using (show ¬ (j ≤ q.1) by omega)), List.filter_cons, if_neg (by simpa using (show ¬ (j + 1 ≤ q.1) by omega))]
      exact ih
theorem cnt_mono {j : Nat} (T : Tops) : cnt (j + 1) T ≤ cnt j T := by
  unfold cnt
  rw [← List.countP_eq_length_filter, ← List.countP_eq_length_filter]
  refine List.countP_mono_left fun p _ h => ?_
  have := of_decide_eq_true h
  exact decide_eq_true (by omega)
def tri : Nat → Nat
  | 0 => 0
  | n + 1 => tri n + (n + 1)
theorem tri_mono {a b : Nat} (h : a ≤ b) : tri a ≤ tri b := by
  induction b with
  | zero =>
    obtain rfl : a = 0 := by omega
    exact Nat.le_refl _
  | succ b ih =>
    by_cases e : a = b + 1
    · rw [e]
      exact Nat.le_refl _
    · have := ih (by omega)
      show tri a ≤ tri b + (b + 1)
      omega
/-- the size of a row when n pivots of k are left -/
def fB (B k n : Nat) : Nat := B * (1 + (tri k - tri n))
theorem fB_step {B k n : Nat} (h : n + 1 ≤ k) : fB B k (n + 1) + (n + 1) * B = fB B k n := by
  unfold fB
  have h1 := tri_mono h
  have h2 : tri (n + 1) = tri n + (n + 1) := rfl
  rw [Nat.mul_comm (n + 1) B, ← Nat.mul_add]
  congr 1
  omega
theorem fB_mono {B k n m : Nat} (h : n ≤ m) : fB B k m ≤ fB B k n := by
  unfold fB
  have := tri_mono h
  exact Nat.mul_le_mul_left B (by omega)
theorem fB_B {B k n : Nat} : B ≤ fB B k n := Nat.le_mul_of_pos_right B (by omega)
/-- what stands before the column j -/
structure WR (w B : Nat) (T0 : Tops) (r0 : List Int) (j : Nat) (T : Tops) (r : List Int) : Prop where
  E : Ech w T
  lr : r.length = w
  zr : ∀ i, i < j → r.getD i 0 = 0
  span : ∀ x, Spn (r :: rowsT T) x ↔ Spn (r0 :: rowsT T0) x
  keys : T.map (·.1) = T0.map (·.1)
  cr : Cost (fB B T0.length (cnt j T)) r
  cT : ∀ p ∈ T, j ≤ p.1 → Cost B p.2
  cA : ∀ p ∈ T, Cost (fB B T0.length 0) p.2
  col : ∀ d, (∀ p ∈ T0, p.2.getD d 0 = 0) → (∀ p ∈ T, j ≤ p.1 → p.2.getD d 0 = 0) ∧ (r0.getD d 0 ≠ 0 → r.getD d 0 ≠ 0)
theorem WR.start {w B : Nat} {T : Tops} {r : List Int} (E : Ech w T) (hr : r.length = w) (cT : ∀ p ∈ T, Cost B p.2) (cr : Cost B r) : WR w B T r 0 T r :=
  ⟨E, hr, fun i hi => absurd hi (Nat.not_lt_zero _), fun x => Iff.rfl, rfl, cr.up fB_B, fun p hp _ => cT p hp, fun p hp => (cT p hp).up fB_B, fun d h => ⟨fun p hp _ => h p hp, id⟩⟩
theorem WR.len {w B j : Nat} {T0 T : Tops} {r0 r : List Int} (h : WR w B T0 r0 j T r) : T.length = T0.length := by
  have := congrArg List.length h.keys
  rwa [List.length_map, List.length_map] at this
theorem WR.skip {w B j : Nat} {T0 T : Tops} {r0 r : List Int} (h : WR w B T0 r0 j T r) (hz : r.getD j 0 = 0) : WR w B T0 r0 (j + 1) T r := by
  refine ⟨h.E, h.lr, fun i hi => ?_, h.span, h.keys, h.cr.up (fB_mono (cnt_mono T)), fun p hp hj => h.cT p hp (by omega), h.cA, fun d hd => ⟨fun p hp hj => (h.col d hd).1 p hp (by omega), (h.col d hd).2⟩⟩
  by_cases e : i = j
  · rw [e]
    exact hz
  · exact h.zr i (by omega)
/-- the result -/
structure WRes (w B : Nat) (T0 : Tops) (r0 : List Int) (T : Tops) : Prop where
  E : Ech w T
  span : ∀ x, Spn (rowsT T) x ↔ Spn (r0 :: rowsT T0) x
  len : T.length = T0.length ∨ T.length = T0.length + 1
  cost : ∀ p ∈ T, Cost (B * (1 + tri T0.length)) p.2
  full : ∀ d, (∀ p ∈ T0, p.2.getD d 0 = 0) → r0.getD d 0 ≠ 0 → T.length = T0.length + 1
theorem fB_0 (B k : Nat) : fB B k 0 = B * (1 + tri k) := by
  unfold fB
  rfl
theorem WR.done {w B : Nat} {T0 T : Tops} {r0 r : List Int} (h : WR w B T0 r0 w T r) : WRes w B T0 r0 T := by
  have hz : ∀ j, r.getD j 0 = 0 := fun j => by
    by_cases hj : j < w
    · exact h.zr j hj
    · exact getD_none (by rw [h.lr]; omega)
  refine ⟨h.E, fun x => Iff.trans ⟨Spn.tail, fun ⟨a, ha⟩ => ha.cong fun j => by rw [hz, Int.mul_zero, Int.sub_zero]⟩ (h.span x), .inl h.len, fun p hp => by rw [← fB_0]; exact h.cA p hp, fun d hd hn => absurd (hz d) ((h.col d hd).2 hn)⟩
def normR (c : Nat) (row : List Int) : List Int := if 0 < row.getD c 0 then row else row.map fun z => -z
theorem neg_get (row : List Int) (j : Nat) : (row.map fun z => -z).getD j 0 = -row.getD j 0 := by
  rw [List.getD_eq_getElem?_getD, List.getElem?_map, List.getD_eq_getElem?_getD]
  cases row[j]? <;> rfl
theorem normR_len (c : Nat) (row : List Int) : (normR c row).length = row.length := by
  unfold normR
  split
  · rfl
  · exact List.length_map ..
theorem normR_get (c : Nat) (row : List Int) : ∃ s : Int, (s = 1 ∨ s = -1) ∧ (∀ j, (normR c row).getD j 0 = s * row.getD j 0) := by
  unfold normR
  split
  · exact ⟨1, .inl rfl, fun j => (Int.one_mul _).symm⟩
  · exact ⟨-1, .inr rfl, fun j => by rw [neg_get]; omega⟩
theorem WR.insert {w B j : Nat} {T0 T : Tops} {r0 r : List Int} (h : WR w B T0 r0 j T r) (hj : j < w) (hn : r.getD j 0 ≠ 0) (hk : ∀ p ∈ T, p.1 ≠ j) : WRes w B T0 r0 (insK j (normR j r) T) := by
  obtain ⟨s, hs, hg⟩ := normR_get j r
  have hp : Pv w (j, normR j r) := by
    refine ⟨hj, by rw [normR_len]; exact h.lr, fun i hi => ?_, ?_⟩
    · show (normR j r).getD i 0 = 0
      rw [hg, h.zr i hi, Int.mul_zero]
    · show 0 < (normR j r).getD j 0
      unfold normR
      split
      · assumption
      · rw [neg_get]
        omega
  have hcn : Cost (fB B T0.length (cnt j T)) (normR j r) := by
    unfold normR
    split
    · exact h.cr
    · intro x hx
      obtain ⟨y, hy, rfl⟩ := List.mem_map.mp hx
      rw [Int.natAbs_neg]
      exact h.cr y hy
  refine ⟨insK_ech h.E hp hk, fun x => Iff.trans ?_ (h.span x), .inr (by rw [insK_len, h.len]), fun p hp => ?_, fun d _ _ => by rw [insK_len, h.len]⟩
  · constructor
    · refine Spn.sub fun q hq => ?_
      obtain ⟨p, hp, rfl⟩ := List.mem_map.mp hq
      rcases mem_insK.mp hp with rfl | hp
      · exact ((Spn.head (rowsT T) r).smul s).cong fun i => (hg i).symm
      · exact (Spn.mem (List.mem_map.mpr ⟨p, hp, rfl⟩)).tail
    · refine Spn.sub fun q hq => ?_
      rcases List.mem_cons.mp hq with rfl | hq
      · have := (Spn.mem (R := rowsT (insK j (normR j q) T)) (r := normR j q) (List.mem_map.mpr ⟨(j, normR j q), mem_insK.mpr (.inl rfl), rfl⟩)).smul s
        refine this.cong fun i => ?_
        show s * (normR j q).getD i 0 = q.getD i 0
        rw [hg]
        rcases hs with rfl | rfl <;> omega
      · obtain ⟨p, hp, rfl⟩ := List.mem_map.mp hq
        exact Spn.mem (List.mem_map.mpr ⟨p, mem_insK.mpr (.inr hp), rfl⟩)
  · rw [← fB_0]
    rcases mem_insK.mp hp with rfl | hp
    · exact hcn.up (fB_mono (Nat.zero_le _))
    · exact h.cA p hp
/-- what cofactors tells -/
structure Cof (a b g u v : Int) : Prop where
  pos : 0 < g
  eq : g = u * a + v * b
  da : g ∣ a
  db : g ∣ b
  ub : u.natAbs ≤ b.natAbs
  vb : v.natAbs ≤ a.natAbs
theorem WR.merge {w B j : Nat} {T0 T : Tops} {r0 r t : List Int} {g u v : Int} (h : WR w B T0 r0 j T r) (hj : j < w) (hn : r.getD j 0 ≠ 0) (ht : (j, t) ∈ T) (c : Cof (t.getD j 0) (r.getD j 0) g u v) :
    WR w B T0 r0 (j + 1) (setK j (mixR u t v r) T) (redT (setK j (mixR u t v r) T) (mixR (t.getD j 0 / g) r (-(r.getD j 0 / g)) t)) ∧
    Cost (fB B T0.length 0) (mixR u t v r) ∧ Cost (fB B T0.length 0) (mixR (t.getD j 0 / g) r (-(r.getD j 0 / g)) t) := by
  have hpv := h.E.pv _ ht
  have lt : t.length = w := hpv.len
  have lr := h.lr
  have cB : Cost B t := h.cT _ ht (Nat.le_refl _)
  have hn1 : cnt j T = cnt (j + 1) T + 1 := cnt_step_at h.E ht rfl
  have hnk : cnt (j + 1) T + 1 ≤ T0.length := by rw [← hn1, ← h.len]; exact cnt_le j T
  have stp := fB_step (B := B) hnk
  rw [← hn1] at stp
  obtain ⟨α, ha⟩ := c.da
  obtain ⟨β, hb⟩ := c.db
  have g0 := c.pos
  have ea : t.getD j 0 / g = α := by rw [ha, Int.mul_ediv_cancel_left _ (by omega)]
  have eb : r.getD j 0 / g = β := by rw [hb, Int.mul_ediv_cancel_left _ (by omega)]
  have det : u * α + v * β = 1 := by
    have := c.eq
    rw [ha, hb] at this
    refine Int.eq_of_mul_eq_mul_left (show g ≠ 0 by omega) ?_
    rw [Int.mul_one]
    grind
  rw [ea, eb]
  have l1 : (mixR u t v r).length = w := mixR_len lt lr
  have l2 : (mixR α r (-β) t).length = w := mixR_len lr lt
  have g1 := mixR_get (a := u) (b := v) lt lr
  have g2 := mixR_get (a := α) (b := -β) lr lt
  have ca : 2 * α.natAbs < 2 ^ B := by
    have h1 := cB.at j
    have h2 : α.natAbs ≤ (t.getD j 0).natAbs := by rw [← ea]; exact Int.natAbs_ediv_le_natAbs _ _
    omega
  have cb : 2 * (-β).natAbs < 2 ^ fB B T0.length (cnt j T) := by
    have h1 := h.cr.at j
    have h2 : β.natAbs ≤ (r.getD j 0).natAbs := by rw [← eb]; exact Int.natAbs_ediv_le_natAbs _ _
    rw [Int.natAbs_neg]
    omega
  have c1 : Cost (fB B T0.length (cnt j T) + B) (mixR u t v r) := by
    have h1 := c.ub
    have h2 := c.vb
    have h3 := h.cr.at j
    have h4 := cB.at j
    exact mixR_cost (by omega) cB (by omega) h.cr
  have c2 : Cost (B + fB B T0.length (cnt j T)) (mixR α r (-β) t) := mixR_cost ca h.cr cb cB
  have hBn : B ≤ cnt j T * B := Nat.le_mul_of_pos_left B (by omega)
  have top0 : fB B T0.length (cnt j T) + B ≤ fB B T0.length 0 := by
    have := fB_mono (B := B) (k := T0.length) (Nat.zero_le (cnt (j + 1) T))
    omega
  have hz2 : ∀ i, i ≤ j → (mixR α r (-β) t).getD i 0 = 0 := fun i hi => by
    rw [g2]
    by_cases e : i = j
    · rw [e, ha, hb]
      grind
    · rw [h.zr i (by omega), hpv.zero i (by show i < j; omega), Int.mul_zero, Int.mul_zero]
      rfl
  have hp : Pv w (j, mixR u t v r) := by
    refine ⟨hj, l1, fun i hi => ?_, ?_⟩
    · show (mixR u t v r).getD i 0 = 0
      rw [g1, h.zr i hi, hpv.zero i hi, Int.mul_zero, Int.mul_zero]
      rfl
    · show 0 < (mixR u t v r).getD j 0
      rw [g1, ← c.eq]
      exact g0
  have E' := setK_ech (t := mixR u t v r) h.E hp
  have lT : ∀ p ∈ setK j (mixR u t v r) T, p.2.length = w := fun p hp => (E'.pv p hp).len
  -- only the pivots behind j count
  obtain ⟨S, hS⟩ : ∃ S, setK j (mixR u t v r) T = S := ⟨_, rfl⟩
  rw [hS] at E' lT
  have hkeys : S.map (·.1) = T.map (·.1) := by rw [← hS]; exact setK_keys ..
  have split : ∀ {S : Tops}, Ech w S → ∃ S1 S2, S = S1 ++ S2 ∧ (∀ p ∈ S1, p.1 ≤ j) ∧ (∀ p ∈ S2, j < p.1) ∧ Ech w S2 ∧ S2.length = cnt (j + 1) S := fun {S} E => by
    induction S with
    | nil => exact ⟨[], [], rfl, fun p hp => (by cases hp), fun p hp => (by cases hp), E, rfl⟩
    | cons q S ih =>
      by_cases hq : q.1 ≤ j
      · obtain ⟨S1, S2, e, h1, h2, h3, h4⟩ := ih E.tail
        refine ⟨q :: S1, S2, by rw [e]; rfl, fun p hp => ?_, h2, h3, ?_⟩
        · rcases List.mem_cons.mp hp with rfl | hp
          · exact hq
          · exact h1 p hp
        · unfold cnt at h4 ⊢
          rw [List.filter_cons, if_neg (by simpa using (show ¬ (j + 1 ≤ q.1) by omega))]
          exact h4
      · obtain ⟨_, hl⟩ := E.head
        have hall : ∀ p ∈ q :: S, j < p.1 := fun p hp => by
          rcases List.mem_cons.mp hp with rfl | hp
          · omega
          · have := hl p hp
            omega
        refine ⟨[], q :: S, rfl, fun p hp => (by cases hp), hall, E, ?_⟩
        unfold cnt
        rw [List.filter_eq_self.mpr fun p hp => decide_eq_true (show j + 1 ≤ p.1 from hall p hp)]
  obtain ⟨S1, S2, eS, hS1, hS2, E2, n2⟩ := split E'
  have er : redT S (mixR α r (-β) t) = redT S2 (mixR α r (-β) t) := by
    rw [eS, redT_app, redT_skip fun p hp => hz2 p.1 (hS1 p hp)]
  have cS2 : ∀ p ∈ S2, Cost B p.2 := fun p hp => by
    have h1 : p ∈ setK j (mixR u t v r) T := by rw [hS, eS]; exact List.mem_append_right _ hp
    rcases mem_setK h1 with rfl | ⟨h2, _⟩
    · exact absurd (hS2 _ hp) (Nat.lt_irrefl _)
    · exact h.cT p h2 (Nat.le_of_lt (hS2 p hp))
  have n2' : S2.length = cnt (j + 1) T := by rw [n2]; exact cnt_keys hkeys
  have hlS : ∀ p ∈ S2, p.2.length = w := fun p hp => (E2.pv p hp).len
  rw [hS]
  refine ⟨⟨E', redT_len lT l2, fun i hi => ?_, fun x => Iff.trans ?_ (h.span x), hkeys.trans h.keys, ?_, fun p hp hjp => ?_, fun p hp => ?_, fun d hd => ?_⟩, c1.up top0, c2.up (by omega)⟩
  · rw [er, redT_before E2 hS2 l2 (show i ≤ j by omega)]
    exact hz2 i (by omega)
  · -- the span
    have hs := redT_span lT l2
    have mt : (mixR u t v r) ∈ rowsT S := by
      rw [← hS]
      exact List.mem_map.mpr ⟨_, setK_at ht rfl, rfl⟩
    constructor
    · refine Spn.sub fun q hq => ?_
      have mS : ∀ q ∈ rowsT S, Spn (r :: rowsT T) (fun j => q.getD j 0) := fun q hq => by
        rw [← hS] at hq
        obtain ⟨p, hp, rfl⟩ := List.mem_map.mp hq
        rcases mem_setK hp with rfl | ⟨hp, _⟩
        · have k1 := ((Spn.mem (R := rowsT T) (List.mem_map.mpr ⟨_, ht, rfl⟩)).tail (r := r)).smul u
          have k2 := (Spn.head (rowsT T) r).smul v
          exact (k1.add k2).cong fun i => (g1 i).symm
        · exact (Spn.mem (List.mem_map.mpr ⟨p, hp, rfl⟩)).tail
      rcases List.mem_cons.mp hq with rfl | hq
      · have k1 := ((Spn.mem (R := rowsT T) (List.mem_map.mpr ⟨_, ht, rfl⟩)).tail (r := r)).smul (-β)
        have k2 := (Spn.head (rowsT T) r).smul α
        have k3 := (Spn.sub mS hs).smul (-1)
        refine ((k2.add k1).add k3).cong fun i => ?_
        have := g2 i
        show α * r.getD i 0 + -β * t.getD i 0 + -1 * ((mixR α r (-β) t).getD i 0 - (redT S (mixR α r (-β) t)).getD i 0) = (redT S (mixR α r (-β) t)).getD i 0
        omega
      · exact mS q hq
    · refine Spn.sub fun q hq => ?_
      have k0 : Spn (redT S (mixR α r (-β) t) :: rowsT S) (fun i => (mixR α r (-β) t).getD i 0) :=
        ((Spn.head (rowsT S) (redT S (mixR α r (-β) t))).add hs.tail).cong fun i => by
          show (redT S (mixR α r (-β) t)).getD i 0 + ((mixR α r (-β) t).getD i 0 - (redT S (mixR α r (-β) t)).getD i 0) = (mixR α r (-β) t).getD i 0
          omega
      have k1 : Spn (redT S (mixR α r (-β) t) :: rowsT S) (fun i => (mixR u t v r).getD i 0) := (Spn.mem mt).tail
      rcases List.mem_cons.mp hq with rfl | hq
      · refine ((k1.smul β).add (k0.smul u)).cong fun i => ?_
        show β * (mixR u t v q).getD i 0 + u * (mixR α q (-β) t).getD i 0 = q.getD i 0
        rw [g1, g2]
        have : (u * α + v * β) * q.getD i 0 = q.getD i 0 := by rw [det, Int.one_mul]
        grind
      · obtain ⟨p, hp, rfl⟩ := List.mem_map.mp hq
        by_cases e : p.1 = j
        · have ep : p = (j, t) := key_one h.E hp ht e
          subst ep
          refine ((k1.smul α).add (k0.smul (-v))).cong fun i => ?_
          show α * (mixR u t v r).getD i 0 + -v * (mixR α r (-β) t).getD i 0 = t.getD i 0
          rw [g1, g2]
          have : (u * α + v * β) * t.getD i 0 = t.getD i 0 := by rw [det, Int.one_mul]
          grind
        · refine (Spn.mem (List.mem_map.mpr ⟨p, ?_, rfl⟩)).tail
          rw [← hS]
          exact setK_off hp e
  · -- the size of the row
    rw [er, cnt_keys hkeys]
    refine (redT_cost E2 cS2 c2).up ?_
    rw [n2']
    have e1 : (cnt j T) * B = cnt (j + 1) T * B + B := by rw [hn1, Nat.add_mul, Nat.one_mul]
    omega
  · have h1 : p ∈ setK j (mixR u t v r) T := by rw [hS]; exact hp
    rcases mem_setK h1 with rfl | ⟨h2, _⟩
    · exact absurd hjp (by show ¬ j + 1 ≤ j; omega)
    · exact h.cT p h2 (by omega)
  · have h1 : p ∈ setK j (mixR u t v r) T := by rw [hS]; exact hp
    rcases mem_setK h1 with rfl | ⟨h2, _⟩
    · exact c1.up top0
    · exact h.cA p h2
  · obtain ⟨k1, k2⟩ := h.col d hd
    have hS2d : ∀ p ∈ S2, p.2.length = w ∧ p.2.getD d 0 = 0 := fun p hp => by
      have h1 : p ∈ setK j (mixR u t v r) T := by rw [hS, eS]; exact List.mem_append_right _ hp
      rcases mem_setK h1 with rfl | ⟨h2, _⟩
      · exact absurd (hS2 _ hp) (Nat.lt_irrefl _)
      · exact ⟨hlS p hp, k1 p h2 (Nat.le_of_lt (hS2 p hp))⟩
    refine ⟨fun p hp hjp => ?_, fun hr0 => ?_⟩
    · have h1 : p ∈ setK j (mixR u t v r) T := by rw [hS]; exact hp
      rcases mem_setK h1 with rfl | ⟨h2, _⟩
      · exact absurd hjp (by show ¬ j + 1 ≤ j; omega)
      · exact k1 p h2 (by omega)
    · rw [er, redT_col hS2d l2, g2, k1 _ ht (Nat.le_refl _), Int.mul_zero, Int.add_zero]
      refine Int.mul_ne_zero ?_ (k2 hr0)
      intro e
      rw [e, Int.mul_zero] at ha
      have := hpv.pos
      have h9 : 0 < t.getD j 0 := this
      omega
end Gm
/-! a dict of rows by columns -/
namespace Gm
open PySem PySem.Spec PyProof.Rows L2
def keyT (T : Tops) : List Key := T.map fun p => Sum.inl (p.1 : Int)
/-- at a there is a dict whose keys are the columns of the pivots -/
def DT (K : Frag) (H : Hp) (a : Addr) (T : Tops) : Prop := ∃ kvs : List (Key × V), H a = some (.dK kvs) ∧ (kvs.map (·.1)).Perm (keyT T) ∧ ∀ p ∈ T, ∃ v, valV kvs (Sum.inl (p.1 : Int)) = some v ∧ TRow K H v p.2
theorem DT.same {K : Frag} {H H' : Hp} {a : Addr} {T : Tops} (s : Same H H') (h : DT K H a T) : DT K H' a T :=
  let ⟨kvs, e, pk, hv⟩ := h; ⟨kvs, s _ _ e, pk, fun p hp => let ⟨v, ev, hr⟩ := hv p hp; ⟨v, ev, TRow.same s hr⟩⟩
theorem DT.nil {K : Frag} {H : Hp} {a : Addr} : DT K (upd H a (.dK [])) a [] := ⟨[], upd_same, List.Perm.nil, fun p hp => (by cases hp)⟩
theorem keyT_mem {T : Tops} {j : Nat} : Sum.inl (j : Int) ∈ keyT T ↔ ∃ p ∈ T, p.1 = j := by
  unfold keyT
  rw [List.mem_map]
  constructor
  · rintro ⟨p, hp, e⟩
    refine ⟨p, hp, ?_⟩
    have := Sum.inl.inj e
    omega
  · rintro ⟨p, hp, rfl⟩
    exact ⟨p, hp, rfl⟩
theorem DT.get {K : Frag} {H : Hp} {a : Addr} {T : Tops} {p : Nat × List Int} (h : DT K H a T) (hp : p ∈ T) : ∃ v, DGet H a (.int (p.1 : Int)) (some v) ∧ TRow K H v p.2 := by
  obtain ⟨kvs, e, pk, hv⟩ := h
  obtain ⟨v, ev, hr⟩ := hv p hp
  exact ⟨v, .inl ⟨kvs, Sum.inl (p.1 : Int), .inl e, rfl, ev.symm⟩, hr⟩
theorem DT.has {K : Frag} {H : Hp} {a : Addr} {T : Tops} (h : DT K H a T) (j : Nat) : ∃ o, DGet H a (.int (j : Int)) o ∧ (o.isSome = true ↔ ∃ p ∈ T, p.1 = j) := by
  obtain ⟨kvs, e, pk, hv⟩ := h
  refine ⟨valV kvs (Sum.inl (j : Int)), .inl ⟨kvs, Sum.inl (j : Int), .inl e, rfl, rfl⟩, ?_⟩
  rw [← keyT_mem, ← pk.mem_iff]
  constructor
  · intro hs
    cases hval : valV kvs (Sum.inl (j : Int)) with
    | none => rw [hval] at hs; cases hs
    | some v => exact valV_in hval
  · intro hm
    cases hval : valV kvs (Sum.inl (j : Int)) with
    | none => exact absurd hm (valV_not hval)
    | some v => rfl
theorem DT.len {K : Frag} {H : Hp} {a : Addr} {T : Tops} {kvs : List (Key × V)} (e : H a = some (.dK kvs)) (h : DT K H a T) : kvs.length = T.length := by
  obtain ⟨kvs', e', pk, _⟩ := h
  rw [e] at e'
  cases e'
  have := pk.length_eq
  unfold keyT at this
  rw [List.length_map, List.length_map] at this
  exact this
theorem putK_keys_old {kvs : List (Key × V)} {k : Key} {v : V} (h : valV kvs k ≠ none) : (putK kvs k v).map (·.1) = kvs.map (·.1) := by
  unfold putK
  rw [if_pos (by rw [valV_any]; exact Option.isSome_iff_ne_none.mpr h), List.map_map]
  refine List.map_congr_left fun p _ => ?_
  show (if p.1 = k then (p.1, v) else p).1 = p.1
  split <;> rfl
/-- a row in the place of another -/
theorem DT.set {K : Frag} {H : Hp} {a : Addr} {T : Tops} {j : Nat} {t' : List Int} {v : V} (h : DT K H a T) (hl : T.length < 1000) (hj : ∃ p ∈ T, p.1 = j) (hv : TRow K H v t') : ∃ H', DPut H a (.int (j : Int)) v H' ∧ DT K H' a (setK j t' T) ∧ ∀ b o, b ≠ a → H b = some o → H' b = some o := by
  have hlen := fun {kvs} e => DT.len (kvs := kvs) e h
  obtain ⟨kvs, e, pk, hval⟩ := h
  have hsz : kvs.length < sizeLine := by rw [hlen e]; exact small1000 (by omega)
  have hold : valV kvs (Sum.inl (j : Int)) ≠ none := fun z => by
    obtain ⟨p, hp, rfl⟩ := hj
    obtain ⟨w, ew, _⟩ := hval p hp
    rw [z] at ew
    cases ew
  have hoff : ∀ b o, b ≠ a → H b = some o → (upd H a (.dK (putK kvs (Sum.inl (j : Int)) v))) b = some o := fun b o n x => by rw [L2.upd_ne n]; exact x
  have hrow : ∀ {w : V} {r : List Int}, TRow K H w r → TRow K (upd H a (.dK (putK kvs (Sum.inl (j : Int)) v))) w r := fun {w r} ⟨b, eb, hb⟩ => by
    refine ⟨b, eb, ?_⟩
    rcases hb with (hb | ⟨o, hb⟩) | hb
    · exact .inl (.inl (hoff _ _ (ne_of hb e (by intro z; cases z)) hb))
    · exact .inl (.inr ⟨o, hoff _ _ (ne_of hb e (by intro z; cases z)) hb⟩)
    · exact .inr hb
  refine ⟨_, DPut.k (k := Sum.inl (j : Int)) e hsz, ⟨_, upd_same, ?_, fun p hp => ?_⟩, hoff⟩
  · rw [putK_keys_old hold]
    have : keyT (setK j t' T) = keyT T := by
      unfold keyT
      have := setK_keys j t' T
      have e2 : ∀ S : Tops, (S.map fun p => (Sum.inl (p.1 : Int) : Key)) = (S.map (fun p => p.1)).map fun (c : Nat) => (Sum.inl (c : Int) : Key) := fun S => by rw [List.map_map]; rfl
      rw [e2, e2, this]
    rw [this]
    exact pk
  · rw [valV_put]
    rcases mem_setK hp with rfl | ⟨hp, hn⟩
    · exact ⟨v, by rw [if_pos rfl], hrow hv⟩
    · obtain ⟨w, ew, hr⟩ := hval p hp
      refine ⟨w, ?_, hrow hr⟩
      rw [if_neg fun z => hn (by have := Sum.inl.inj z; omega)]
      exact ew
/-- one more row -/
theorem DT.ins {K : Frag} {H : Hp} {a : Addr} {T S : Tops} {j : Nat} {t' : List Int} {v : V} (h : DT K H a T) (hl : T.length < 1000) (hj : ∀ p ∈ T, p.1 ≠ j) (hv : TRow K H v t') (hS : S.Perm ((j, t') :: T)) : ∃ H', DPut H a (.int (j : Int)) v H' ∧ DT K H' a S ∧ ∀ b o, b ≠ a → H b = some o → H' b = some o := by
  have hlen := fun {kvs} e => DT.len (kvs := kvs) e h
  obtain ⟨kvs, e, pk, hval⟩ := h
  have hsz : kvs.length < sizeLine := by rw [hlen e]; exact small1000 (by omega)
  have hnew : valV kvs (Sum.inl (j : Int)) = none := by
    cases hv : valV kvs (Sum.inl (j : Int)) with
    | none => rfl
    | some v =>
      have := pk.mem_iff.mp (valV_in hv)
      obtain ⟨p, hp, ep⟩ := keyT_mem.mp this
      exact absurd ep (hj p hp)
  have hoff : ∀ b o, b ≠ a → H b = some o → (upd H a (.dK (putK kvs (Sum.inl (j : Int)) v))) b = some o := fun b o n x => by rw [L2.upd_ne n]; exact x
  have hrow : ∀ {w : V} {r : List Int}, TRow K H w r → TRow K (upd H a (.dK (putK kvs (Sum.inl (j : Int)) v))) w r := fun {w r} ⟨b, eb, hb⟩ => by
    refine ⟨b, eb, ?_⟩
    rcases hb with (hb | ⟨o, hb⟩) | hb
    · exact .inl (.inl (hoff _ _ (ne_of hb e (by intro z; cases z)) hb))
    · exact .inl (.inr ⟨o, hoff _ _ (ne_of hb e (by intro z; cases z)) hb⟩)
    · exact .inr hb
  refine ⟨_, DPut.k (k := Sum.inl (j : Int)) e hsz, ⟨_, upd_same, ?_, fun p hp => ?_⟩, hoff⟩
  · rw [putK_new v hnew, List.map_append]
    have h1 : (keyT S).Perm (keyT ((j, t') :: T)) := hS.map _
    refine List.Perm.trans ?_ h1.symm
    show ((kvs.map fun (kv : Key × V) => kv.1) ++ [(Sum.inl (j : Int) : Key)]).Perm ((Sum.inl (j : Int) : Key) :: keyT T)
    exact (List.perm_append_comm).trans (List.Perm.cons _ pk)
  · rw [valV_put]
    have hp := hS.mem_iff.mp hp
    rcases List.mem_cons.mp hp with rfl | hp
    · exact ⟨v, by rw [if_pos rfl], hrow hv⟩
    · obtain ⟨w, ew, hr⟩ := hval p hp
      refine ⟨w, ?_, hrow hr⟩
      rw [if_neg fun z => hj p hp (by have := Sum.inl.inj z; omega)]
      exact ew
theorem insK_perm {j : Nat} {r : List Int} : ∀ {T : Tops}, (insK j r T).Perm ((j, r) :: T)
  | [] => List.Perm.refl _
  | p :: T => by
    unfold insK
    split
    · exact (List.Perm.cons p insK_perm).trans (List.Perm.swap ..)
    · exact List.Perm.refl _
/-! ### sorted -/
theorem sorted_uniq : ∀ {xs ys : List Int}, xs.Perm ys → xs.Pairwise (· ≤ ·) → ys.Pairwise (· ≤ ·) → xs = ys
  | [], ys, h, _, _ => (List.nil_perm.mp h).symm
  | x :: xs, [], h, _, _ => (List.perm_nil.mp h)
  | x :: xs, y :: ys, h, hx, hy => by
    obtain ⟨hx1, hx2⟩ := List.pairwise_cons.mp hx
    obtain ⟨hy1, hy2⟩ := List.pairwise_cons.mp hy
    have e : x = y := by
      have h1 : x ∈ y :: ys := h.mem_iff.mp (List.mem_cons_self ..)
      have h2 : y ∈ x :: xs := h.mem_iff.mpr (List.mem_cons_self ..)
      rcases List.mem_cons.mp h1 with e | h1
      · exact e
      · rcases List.mem_cons.mp h2 with e | h2
        · exact e.symm
        · have := hx1 y h2
          have := hy1 x h1
          omega
    subst e
    rw [sorted_uniq (List.Perm.cons_inv h) hx2 hy2]
def colT (T : Tops) : List Int := T.map fun p => (p.1 : Int)
theorem colT_asc {w : Nat} {T : Tops} (E : Ech w T) : (colT T).Pairwise (· ≤ ·) := by
  unfold colT
  rw [List.pairwise_map]
  exact E.asc.imp fun h => by omega
theorem DT.keys {K : Frag} {H : Hp} {a : Addr} {T : Tops} (h : DT K H a T) : ∃ (kvs : List (Key × V)) (ks : List Int), Rd H a (.dK kvs) ∧ kvs.map (·.1) = ks.map Sum.inl ∧ ks.Perm (colT T) := by
  obtain ⟨kvs, e, pk, _⟩ := h
  have ex : ∀ l : List Key, (∀ k ∈ l, ∃ i : Int, k = Sum.inl i) → ∃ ks : List Int, l = ks.map Sum.inl := fun l => by
    induction l with
    | nil => intro _; exact ⟨[], rfl⟩
    | cons k l ih =>
      intro hh
      obtain ⟨i, rfl⟩ := hh k (List.mem_cons_self ..)
      obtain ⟨ks, e⟩ := ih fun k hk => hh k (List.mem_cons_of_mem _ hk)
      exact ⟨i :: ks, by rw [e]; rfl⟩
  obtain ⟨ks, eks⟩ := ex (kvs.map (·.1)) fun k hk => by
    have := pk.mem_iff.mp hk
    obtain ⟨p, _, rfl⟩ := List.mem_map.mp this
    exact ⟨_, rfl⟩
  refine ⟨kvs, ks, .inl e, eks, ?_⟩
  rw [eks] at pk
  have h2 : (ks.map (Sum.inl : Int → Key)).Perm ((colT T).map Sum.inl) := by
    unfold colT
    rw [List.map_map]
    exact pk
  have h3 := h2.filterMap (fun k : Key => match k with | .inl i => some i | .inr _ => none)
  rw [List.filterMap_map, List.filterMap_map] at h3
  have e3 : ∀ l : List Int, l.filterMap ((fun k : Key => match k with | .inl i => some i | .inr _ => none) ∘ Sum.inl) = l := fun l => by
    induction l with
    | nil => rfl
    | cons i l ih => rw [List.filterMap_cons]; show i :: _ = _; rw [ih]
  rw [e3, e3] at h3
  exact h3
theorem cols_eq {w : Nat} {T : Tops} {ks ys : List Int} (E : Ech w T) (hk : ks.Perm (colT T)) (hy : ys.Perm ks) (ho : ys.Pairwise (· ≤ ·)) : ys = colT T := sorted_uniq (hy.trans hk) ho (colT_asc E)
theorem cols_rev {w : Nat} {T : Tops} {ks ys : List Int} (E : Ech w T) (hk : ks.Perm (colT T)) (hy : ys.Perm ks) (ho : OrdB true ys) : ys = (colT T).reverse := by
  have h1 : ys.reverse.Pairwise (· ≤ ·) := by
    rw [List.pairwise_reverse]
    exact ho
  have h2 := sorted_uniq ((List.reverse_perm ys).trans (hy.trans hk)) h1 (colT_asc E)
  rw [← h2, List.reverse_reverse]
end Gm
/-! zip(xs, ys) of a tuple and a list. -/
namespace Gm
open PySem PySem.Spec PyProof.Rows L2 RZ
/-- the tuple at a and the list at b as they stand at each turn -/
def ItzM (K : PySem.W.Frag) (a b : Addr) : It :=
  ⟨fun i H => ∃ (us ws : List V) (u q : V), SqT K H a us ∧ SqL K H b ws ∧ us[i]? = some u ∧ ws[i]? = some q,
    fun i H v H' => ∃ T u q, v = .ref T ∧ H T = none ∧ H' = upd H T (.tup [u, q]) ∧ (∀ us, SqT K H a us → us[i]? = some u) ∧ ∀ ws, SqL K H b ws → ws[i]? = some q,
    fun i H => ∃ us ws : List V, SqT K H a us ∧ SqL K H b ws ∧ i = us.length ∧ i = ws.length⟩
theorem zsep {z TI TO i1 i2 a b : Addr} (D : ZipApart z TI TO i1 i2 a b) : ZipSep2 z TI TO i1 i2 [i1, a] [i2, b] :=
  ⟨D.TIz, D.TOz, D.TITO, D.TIi1, by simp, by simp [D.i1z.symm, D.l1z.symm], by simp [D.TOi1, D.l1TO.symm], D.TIi2, by simp, by simp [D.i2z.symm, D.l2z.symm], by simp [D.TOi2, D.l2TO.symm], by simp [D.i12, D.l2i1.symm], by simp [D.i12.symm, D.l1i2.symm]⟩
theorem turn_zipM {P : Program} {w : World} {K : PySem.W.Frag} {elts : List Expr} {kk : Nat} {tpos : Pos} {a b z TI TO i1 i2 : Addr} (D : ZipApart z TI TO i1 i2 a b) :
    Turn P w K (.Tuple elts kk tpos) (ItzM K a b) [z, TI, TO, i1, i2] z (fun i h => IsZip h z TI TO .none ∧ IsPair h TI (.ref i1) (.ref i2) ∧ (∃ x y, IsPair h TO x y) ∧ h.IsTupleIter i1 a i ∧ h.IsListIter i2 b i) where
  mem := by simp
  obj := fun i h st c hc => by
    obtain ⟨g1, g2, ⟨p, q, g3⟩, ⟨o1, g4, _, d1⟩, ⟨o2, g5, _, d2⟩⟩ := st
    rcases (show c = z ∨ c = TI ∨ c = TO ∨ c = i1 ∨ c = i2 by simpa using hc) with e | e | e | e | e <;> rw [e]
    · exact ⟨_, g1, fun v q => nomatch q⟩
    · exact ⟨_, g2, fun v q => nomatch q⟩
    · exact ⟨_, g3, fun v q => nomatch q⟩
    · exact ⟨o1, g4, fun v q => by rw [d1] at q; cases q⟩
    · exact ⟨o2, g5, fun v q => by rw [d2] at q; cases q⟩
  keep := fun i h h' st k => by
    obtain ⟨g1, g2, ⟨p, q, g3⟩, g4, g5⟩ := st
    exact ⟨k z (by simp) _ g1, k TI (by simp) _ g2, ⟨p, q, k TO (by simp) _ g3⟩, g4.at fun o e => k i1 (by simp) o e, g5.at fun o e => k i2 (by simp) o e⟩
  item := by
    intro X hP hw hK hc i pn s σ H E I hf st hg
    subst hP hw hK
    obtain ⟨g1, g2, ⟨p0, q0, g3⟩, g4, g5⟩ := st
    obtain ⟨us, ws, u, q, hus, hws, hu, hq⟩ := hg
    obtain ⟨its, rv, pt, _⟩ := I.tuple hus
    obtain ⟨jts, rw', pl, _⟩ := I.list hws
    obtain ⟨m, hm, rm⟩ := rv.get hu
    obtain ⟨n, hn, rn⟩ := rw'.get hq
    have lz := Heap.lt_size g1
    have hd : s.heap.IsTuple a its.toArray := pt
    have hA : X.A.handled = none := I.ok.hd hc
    have D1 := Draws.tuple (prog := X.prog) (w := X.w) (A := X.A.in1) hA i1 a D.l1i1 its.toArray
    have D2 := Draws.list (prog := X.prog) (w := X.w) (A := X.A.in1) hA i2 b D.l2i2 jts.toArray
    have li : i < its.toArray.size := by
      have := (List.getElem?_eq_some_iff.mp hm).1
      simpa using this
    have lj : i < jts.toArray.size := by
      have := (List.getElem?_eq_some_iff.mp hn).1
      simpa using this
    refine wpAny_pyNext_zipD2_item (zsep D) D1 D2 g1 g2 g3 ⟨g4, hd⟩ ⟨g5, pl.isList⟩ li lj fun x1 x2 h' tk e1 e2 z' TO' s1 s2 hT hsz hk => ?_
    obtain rfl : m = x1 := by
      have e3 : its.toArray[i]? = some m := by simpa using hm
      exact Option.some.inj (e3.symm.trans e1)
    obtain rfl : n = x2 := by
      have e3 : jts.toArray[i]? = some n := by simpa using hn
      exact Option.some.inj (e3.symm.trans e2)
    refine ⟨_, rfl, wpAny_letOwnedTupleGo_zip (s := { s with heap := h', toks := tk }) z' fun h'' z'' sb => ?_⟩
    have hT2 : h''.get? s.heap.objs.size = some { cls := .type "tuple", data := .seq #[m, n] } := (sb.2 _ (Nat.ne_of_gt lz)).trans hT
    have nw : ObjOk X.prog X.w (upd H s.heap.objs.size (.tup [u, q])) h'' s.heap.objs.size (.tup [u, q]) := ⟨by show 2 ≤ sizeLine; decide, [m, n], .cons rm (.cons rn .nil), ⟨_, hT2, rfl, _, rfl⟩⟩
    have I1 : Inv X pn σ (upd H s.heap.objs.size (.tup [u, q])) { s with heap := h'', toks := tk } :=
      I.turnedNew (t' := tk) (ch := [z, TI, TO, i1, i2]) (fun c o hb e => (sb.2 c (fun q' => hb (by simp [q']))).trans (hk c o (fun q' => hb (by simp [q'])) (fun q' => hb (by simp [q'])) (fun q' => hb (by simp [q'])) (fun q' => hb (by simp [q'])) e)) hf (Nat.le_refl _) nw
    refine ⟨.ref s.heap.objs.size, _, I1, rfl, ⟨_, u, q, rfl, I.hok.fresh (Nat.le_refl _), rfl, fun l hl => by rw [I.tuple_inj hl hus]; exact hu, fun l hl => by rw [I.list_inj hl hws]; exact hq⟩, ⟨z'', (sb.2 _ D.TIz).trans (hk _ _ D.TIz D.TITO D.TIi1 D.TIi2 g2), ⟨m, n, (sb.2 _ D.TOz).trans TO'⟩, s1.1.at fun o e => (sb.2 _ D.i1z).trans e, s2.1.at fun o e => (sb.2 _ D.i2z).trans e⟩, fun c hcm => ?_⟩
    have lc : c < s.heap.objs.size := by
      obtain ⟨_, k1, _⟩ := g4
      obtain ⟨_, k2, _⟩ := g5
      rcases (show c = z ∨ c = TI ∨ c = TO ∨ c = i1 ∨ c = i2 by simpa using hcm) with e | e | e | e | e <;> rw [e]
      · exact lz
      · exact Heap.lt_size g2
      · exact Heap.lt_size g3
      · exact Heap.lt_size k1
      · exact Heap.lt_size k2
    rw [upd_ne (Nat.ne_of_lt lc)]
    exact (hf c hcm).1
  done := by
    intro X hP hw hK hc i pn s σ H E I hf st hg
    subst hP hw hK
    obtain ⟨g1, g2, ⟨p0, q0, g3⟩, g4, g5⟩ := st
    obtain ⟨us, ws, hus, hws, hi1, hi2⟩ := hg
    obtain ⟨its, rv, pt, _⟩ := I.tuple hus
    obtain ⟨jts, rw', pl, _⟩ := I.list hws
    have lu := rv.length
    have lq := rw'.length
    have hd : s.heap.IsTuple a its.toArray := pt
    have hA : X.A.handled = none := I.ok.hd hc
    have D1 := Draws.tuple (prog := X.prog) (w := X.w) (A := X.A.in1) hA i1 a D.l1i1 its.toArray
    have D2 := Draws.list (prog := X.prog) (w := X.w) (A := X.A.in1) hA i2 b D.l2i2 jts.toArray
    have si : i = its.toArray.size := by rw [List.size_toArray]; omega
    have sj : i = jts.toArray.size := by rw [List.size_toArray]; omega
    exact wpAny_pyNext_zipD2_end (zsep D) D1 D2 g1 g2 g3 ⟨g4, hd⟩ ⟨g5, pl.isList⟩ (Nat.le_of_eq si) (Nat.le_of_eq sj) (.inl si) fun h' tk hk => ⟨rfl, I.turnedL (t' := tk) (ch := [z, TI, TO, i1, i2]) (fun c o hb e =>
      hk c o (fun q' => hb (by simp [q'])) (fun q' => hb (by simp [q'])) (fun q' => hb (by simp [q'])) (fun q' => hb (by simp [q'])) e) hf⟩
  self := fun A i s Q E st h => wpAny_pyIter_zip st.1 h
/-! the zip as it is made -/
abbrev zmA (h : Heap) (a : Addr) : Heap := h.push { cls := .type "tuple_iterator", data := .fields #[.ref a, .int 0 0] }
abbrev zmB (h : Heap) (a b : Addr) : Heap := (zmA h a).push { cls := .type "list_iterator", data := .fields #[.ref b, .int 0 0] }
abbrev zmC (h : Heap) (a b : Addr) : Heap := (zmB h a b).push { cls := .type "tuple", data := .seq #[.ref h.objs.size, .ref (zmA h a).objs.size] }
abbrev zmD (h : Heap) (a b : Addr) : Heap := (zmC h a b).push { cls := .type "tuple", data := .seq #[.none, .none] }
abbrev zmE (h : Heap) (a b : Addr) : Heap := (zmD h a b).push { cls := .type "zip", data := .fields #[.none, .bool false, .bool false, .ref (zmB h a b).objs.size, .ref (zmC h a b).objs.size] }
theorem meets_zipM (a b : Addr) (us ws : Array Value) :
    Meets (Builtin.«zip.__new__» ⟨[.type "zip", .ref a, .ref b], []⟩) (fun _ R s => s.heap.IsTuple a us ∧ s.heap.IsList b ws ∧ R (.ok (.ret (.ref (zmD s.heap a b).objs.size))) { s with heap := zmE s.heap a b }) :=
  .of_wp fun prog w A R s h => by
    obtain ⟨hp, g, d, tk, os⟩ := s
    obtain ⟨ht, hl, h⟩ := h
    have hsub := sub_zip
    have kt : Heap.IsTuple (Shared.heap ⟨hp, g, d, tk, os⟩) a us := ht
    have kl : Heap.IsList (Shared.heap ⟨hp.push { cls := .type "tuple_iterator", data := .fields #[.ref a, .int 0 0] }, g, d, tk, os⟩) b ws := Heap.IsList.push hl _
    wp_walk using wpAny_pyIter_tuple kt, wpAny_pyIter_list kl
    exact ⟨_, rfl, h⟩
theorem call_zipM {prog : Program} {w : World} {A : Around} {E : Value → Shared → Prop} {s : Shared} {a b : Addr} {us ws : Array Value} {Q : Value → Shared → Prop} (ht : s.heap.IsTuple a us) (hl : s.heap.IsList b ws)
    (h : ∀ h', IsZip h' (s.heap.objs.size + 4) (s.heap.objs.size + 2) (s.heap.objs.size + 3) .none → IsPair h' (s.heap.objs.size + 2) (.ref s.heap.objs.size) (.ref (s.heap.objs.size + 1)) → IsPair h' (s.heap.objs.size + 3) .none .none →
      h'.IsTupleIter s.heap.objs.size a 0 → h'.IsListIter (s.heap.objs.size + 1) b 0 → (∀ c o, s.heap.get? c = some o → h'.get? c = some o) → Q (.ref (s.heap.objs.size + 4)) { s with heap := h' }) :
    wpAny (model prog w) A (call (.type "zip") [.ref a, .ref b]) Q E s := by
  refine callType_new F.called_zip (by decide) (F.typeCall_zip_2 _ _) (F.newCall_zip_2 _ _) (fun obj => F.args_object_init_3 obj _ _) F.entry_zip_new (meets_zipM a b us ws) ⟨ht, hl, ?_⟩
  have n1 : (zmA s.heap a).objs.size = s.heap.objs.size + 1 := Heap.size_push ..
  have n2 : (zmB s.heap a b).objs.size = s.heap.objs.size + 2 := by rw [Heap.size_push, n1]
  have n3 : (zmC s.heap a b).objs.size = s.heap.objs.size + 3 := by rw [Heap.size_push, n2]
  have n4 : (zmD s.heap a b).objs.size = s.heap.objs.size + 4 := by rw [Heap.size_push, n3]
  have up : ∀ {h1 : Heap} {c : Addr} {o o' : Obj}, h1.get? c = some o → (h1.push o').get? c = some o := fun e => Heap.get?_push_of_some _ e
  have g5 : (zmE s.heap a b).get? (zmD s.heap a b).objs.size = some _ := Heap.get?_push_size _ rfl
  have g4 : (zmE s.heap a b).get? (zmC s.heap a b).objs.size = some _ := up (Heap.get?_push_size _ rfl)
  have g3 : (zmE s.heap a b).get? (zmB s.heap a b).objs.size = some _ := up (up (Heap.get?_push_size _ rfl))
  have g2 : (zmE s.heap a b).get? (zmA s.heap a).objs.size = some _ := up (up (up (Heap.get?_push_size _ rfl)))
  have g1 : (zmE s.heap a b).get? s.heap.objs.size = some _ := up (up (up (up (Heap.get?_push_size _ rfl))))
  show _ ∧ _
  rw [n2, n3, n4] at g5
  rw [n1, n2] at g3
  rw [n3] at g4
  rw [n1] at g2
  rw [n4]
  exact ⟨⟨_, g5, rfl⟩, h _ g5 g3 g4 ⟨_, g1, rfl, rfl⟩ ⟨_, g2, rfl, rfl⟩ fun c o x => up (up (up (up (up x))))⟩
def iZipM (K : PySem.W.Frag) (ta : TA) : TI := fun σ H R => ta σ H fun vs H1 => ∃ a b us ws, vs = [.ref a, .ref b] ∧ SqT K H1 a us ∧ SqL K H1 b ws ∧ R (ItzM K a b) H1
theorem pi_zipM {X : Cx} {e e2 : Expr} {ta : TA} {p pos tpos : Pos} {elts : List Expr} {kk : Nat} (hg : Gl X "zip") (hm : X.mg "zip" = none) (ha : PA X [e, e2] ta)
    (hs : starEach [e, e2] X.env = (false, eval e X.env) :: starEach [e2] X.env := by rfl) (hpl : (backTo pos (starEach [e2] X.env)).any (·.1) = false := by rfl) :
    PI X (.Tuple elts kk tpos) (.Call (.Name "zip" p) [e, e2] [] pos) (iZipM X.K ta) := by
  refine ⟨fun pn s σ H R I h => Call_ (ld_blt I hg hm PyProof.Rows.boot_zip (PyProof.Rows.callWith_type1 (thn (ha.run pos pn s σ H _ I h) fun vals s1 ⟨vs, H1, I1, r1, q1⟩ => ?_) hs hpl))⟩
  obtain ⟨a, b, us, ws, ex, hus, hws, q⟩ := q1
  subst ex
  cases r1 with
  | cons r rr =>
    cases rr with
    | cons r' rr =>
      cases rr
      cases r
      cases r'
      obtain ⟨its, rv, pt, _⟩ := I1.tuple hus
      obtain ⟨jts, rw', pl, _⟩ := I1.list hws
      obtain ⟨o1, ho1, _⟩ := id pt
      have hd : s1.heap.IsTuple a its.toArray := pt
      refine call_zipM hd pl.isList fun h' g1 g2 g3 g4 g5 hk => wpAny_pyIter_zip g1 ?_
      have I2 : Inv X pn σ H1 { s1 with heap := h' } := I1.kept (t' := s1.toks) hk
      refine ⟨s1.heap.objs.size + 4, [s1.heap.objs.size + 4, s1.heap.objs.size + 2, s1.heap.objs.size + 3, s1.heap.objs.size, s1.heap.objs.size + 1], _, _, H1, rfl, I2, turn_zipM (PySem.W.ktu_apart s1.heap.objs.size a b (Heap.lt_size ho1) pl.lt), ⟨g1, g2, ⟨_, _, g3⟩, g4, g5⟩, fun c hcm => ?_, q⟩
      have le : s1.heap.objs.size ≤ c := by
        rcases (show c = s1.heap.objs.size + 4 ∨ c = s1.heap.objs.size + 2 ∨ c = s1.heap.objs.size + 3 ∨ c = s1.heap.objs.size ∨ c = s1.heap.objs.size + 1 by simpa using hcm) with e | e | e | e | e <;> rw [e]
        · exact Nat.le_add_right _ _
        · exact Nat.le_add_right _ _
        · exact Nat.le_add_right _ _
        · exact Nat.le_refl _
        · exact Nat.le_add_right _ _
      exact I1.fpOk le (I1.hok.fresh le)
theorem walk_zipM {K : PySem.W.Frag} {a b : Addr} {xv yv : List V} {n : Nat} (h1 : xv.length = n) (h2 : yv.length = n) : Walk (ItzM K a b) n (fun H => SqT K H a xv ∧ SqL K H b yv) (YPair (fun i => xv[i]?) (fun i => yv[i]?)) := by
  refine ⟨fun i _ hi q => ?_, fun _ q => ⟨xv, yv, q.1, q.2, h1.symm, h2.symm⟩, fun i H v H' _ q y => ?_⟩
  · have k1 : i < xv.length := by omega
    have k2 : i < yv.length := by omega
    exact ⟨xv, yv, xv[i], yv[i], q.1, q.2, by simp [k1], by simp [k2]⟩
  · obtain ⟨T0, u, q0, y1, y2, y3, y4, y5⟩ := y
    exact ⟨T0, u, q0, y1, y2, y3, y4 xv q.1, y5 yv q.2⟩
end Gm
/-! try with one clause that names two classes and whose suite raises anew -/
namespace Gm
open PySem PySem.Spec PyProof.Rows L2 HotX L2H
def wPair (K : PySem.W.Frag) (c₁ c₂ : Value) (ts : Addr → Value → Option Addr → TS) (D : Ends) : WX := fun cls d σ H => PySem.W.exmAny K cls [c₁, c₂] = some true ∧ ∀ a, H a = none → ts a cls d D σ H
theorem flying_push {B h : Heap} {l : List Env} {a : Addr} {Z : Obj → Prop} (o : Obj) (x : HandSPX.FlyingZ B l a Z h) : HandSPX.FlyingZ B l a Z (h.push o) := by
  obtain ⟨st, na, ff, oe, vs, T, oT, ts, q1, q2, q3, q4, q5, q6, q7, q8⟩ := x
  have up : ∀ b u, h.get? b = some u → (h.push o).get? b = some u := fun b u e => Heap.get?_push_of_some _ e
  exact ⟨fun b u e => up _ _ (st b u e), na, ff.of_keeps fun b u e _ => ⟨u, up _ _ e, rfl⟩, oe, vs, T, oT, ts, up _ _ q1, q2, q3, q4, q5, q6, up _ _ q7, q8⟩
section
variable {X : Cx} {x₁ x₂ : Str} {c₁ c₂ : Value} {body suite : List Stmt} {b₀ : Stmt} {p₁ p₂ tp hp pos : Pos} {kk : Nat} {tb : WX → TS} {ts : Addr → Value → Option Addr → TS} {Wout : WX}
theorem ps_try_pairX (hs : X.stack = X.env :: X.outer) (hf : X.env.frame = some X.env.locals) (n₁ : Names X x₁ c₁) (n₂ : Names X x₂ c₂)
    (hpa : ∀ hd : Option Value, PassesOwnAt (model X.prog X.w) (X.A.mark hd) X.A X.env X.xe) (tk : L2.Takes X Wout)
    (hb : ∀ (W : WX) (pn : List (Addr × Obj)) (xe : Value → Shared → Prop), L2N.Takes (X.tr pn xe) W → PassesOwn (model X.prog X.w) X.A X.env xe → PSs (X.tr pn xe) body (tb W))
    (hsu : ∀ (a : Addr) (oe : Obj) (cls : Value) (d : Option Addr) (pn : List (Addr × Obj)), L2.Takes (suiteX X a ((a, oe) :: pn)) Wout → HotC (suiteX X a ((a, oe) :: pn)) → PSs (suiteX X a ((a, oe) :: pn)) (b₀ :: suite) (ts a cls d)) :
    PS X (.Try body [.ExceptHandler (some (.Tuple [.Name x₁ p₁, .Name x₂ p₂] kk tp)) none (b₀ :: suite) hp] [] [] pos) (fun D σ H => tb (wPair X.K c₁ c₂ ts D) D σ H) := by
  refine ⟨fun pins s σ H D I h => ?_⟩
  have ok := I.ok
  have hfr : X.A.frames = some (X.env :: X.outer) := by rw [ok.frames, hs]
  refine wpAny_Try_except ?_
  refine wpAny_mono ((hb (wPair X.K c₁ c₂ ts D) (X.pn ++ pins) (fun e sa => wpAny (model X.prog X.w) X.A (noteFrame e X.env) (fun _ sb => wpAny (model X.prog X.w) X.A (setFlight e none) (fun _ sc =>
    wpAny (model X.prog X.w) X.A (handleBy e X.env [.ExceptHandler (some (.Tuple [.Name x₁ p₁, .Name x₂ p₂] kk tp)) none (b₀ :: suite) hp]) (SP X pins D) X.xe sc) X.xe sb) X.xe sa) (fun u s' xx => ?caught) PassesOwn.looking).run [] s σ H D (I.toTry _) h) (fun f s1 hsp => ?ends) (fun e s1 he => he)
  case ends =>
    cases f with
    | next => exact let ⟨_, _, J, q⟩ := hsp; wpAny_execs_nil ⟨_, _, J.ofTry ok, q⟩
    | brk => exact let ⟨_, _, J, q⟩ := hsp; ⟨_, _, J.ofTry ok, q⟩
    | cont => exact let ⟨_, _, J, q⟩ := hsp; ⟨_, _, J.ofTry ok, q⟩
    | ret u => exact let ⟨_, _, _, J, r, q⟩ := hsp; ⟨_, _, _, J.ofTry ok, r, q⟩
  case caught =>
    obtain ⟨a, B, sI, pins', σ', H', cls, d, rfl, J', nb, up, sky, na, os, ag, hm, w⟩ := xx
    have J : Inv X pins σ' H' sI := J'.ofTry ok
    rw [show (X.tr (X.pn ++ pins) _).stack = X.env :: X.outer from hs] at sky
    show wpAny (model X.prog X.w) X.A (noteFrame (.ref a) X.env) _ _ _
    refine L2N.Sky.land L2N.Zn.steady hfr hf sky fun h3 fl3 up3 => ?_
    have J3 : Inv X pins σ' H' { s' with heap := h3 } := J.landed nb fl3.1 (up.trans up3) os ag
    obtain ⟨oe3, vs3, he3, hz3, hd3⟩ := fl3.there
    have nfr : a ∉ frs (X.env :: X.outer) := fun q => by
      obtain ⟨_, o', e', hnf⟩ := fl3.2.2.1.mem q
      rw [he3] at e'
      cases e'
      exact hnf _ hd3
    have nL : a ≠ X.env.locals := fun z => nfr (List.mem_filterMap.mpr ⟨X.env, List.mem_cons_self, by rw [hf, z]⟩)
    have nF : a ∉ X.fs := fun q => by
      obtain ⟨e, he, q⟩ := List.mem_filterMap.mp q
      exact nfr (List.mem_filterMap.mpr ⟨e, List.mem_cons_of_mem _ he, q⟩)
    have S3 := J3.suite he3 hd3 na nL nF
    have nm : ∀ {x : Str} {c : Value} {np : Pos} {Q : Value → Shared → Prop} {E : Value → Shared → Prop}, Names X x c → Q c { s' with heap := h3 } → wpAny (model X.prog X.w) (X.A.mark (some (.ref a))) (eval (.Name x np) X.env) Q E { s' with heap := h3 } := fun {x c np Q E} hc q => by
      obtain ⟨hg, hdbg, hm | ⟨hm, hv, hnn⟩⟩ := hc
      · exact ld_glob (X := X.suite a ((a, oe3) :: (X.pn ++ pins))) S3 hg hm q hdbg
      · exact ld_blt (X := X.suite a ((a, oe3) :: (X.pn ++ pins))) S3 hg hm hv q hnn hdbg
    refine wpAny_handleBy_cons (codeAny_handlers_test ?_) (by intro q; cases q)
    refine wpAny_Tuple ?_
    refine wpAny_items_cons (nm n₁ ?_)
    refine wpAny_items_cons (nm n₂ ?_)
    refine wpAny_items_nil ⟨by size_fits, ?_⟩
    have kp : ∀ q o, h3.get? q = some o → (h3.push { cls := .type "tuple", data := .seq [c₁, c₂].toArray }).get? q = some o := fun _ _ z => Heap.get?_push_of_some _ z
    have LT : PySem.W.Looks (model X.prog X.w) (h3.push { cls := .type "tuple", data := .seq [c₁, c₂].toArray }) (typeOf (.ref a)) cls := fun A Q E s k q => wpAny_typeOf_ref (k _ _ (kp _ _ he3)) (by rw [hz3.1]; exact q)
    have fl5 := flying_push { cls := .type "tuple", data := .seq [c₁, c₂].toArray } fl3
    have J5 := J3.kept (t' := s'.toks) kp
    refine (PySem.W.exm_tup2 (M := model X.prog X.w) J5.kIn LT (Heap.get?_push_size h3 rfl) hm).here ?_
    refine codeAny_handlers_suite ?_
    refine HandSPX.lands_againZ fl5 fun h4 fl4 up4 => ?_
    have J4 : Inv X pins σ' H' { s' with heap := h4 } := J.landed nb fl4.1 (((up.trans up3).trans (Heap.UpToSlots.of_keeps kp)).trans up4) os ag
    obtain ⟨oe4, vs4, he4, hz4, hd4⟩ := fl4.there
    have S4 := J4.suite he4 hd4 na nL nF
    have tkS : L2.Takes (suiteX X a ((a, oe4) :: (X.pn ++ pins))) Wout := fun u2 s2 x2 => by
      obtain ⟨a2, B2, sI2, pn2, σ2, H2, cls2, d2, e2, I2, rest2⟩ := x2
      exact tk u2 s2 ⟨a2, B2, sI2, pins, σ2, H2, cls2, d2, e2, unsuiteX I2 ok, rest2⟩
    have hot : HotC (suiteX X a ((a, oe4) :: (X.pn ++ pins))) := ⟨(a, oe4), ⟨rfl, vs4, hd4, hz4.2.2 vs4 hd4⟩, List.mem_cons_self⟩
    refine wpAny_mono ((hsu a oe4 cls d (X.pn ++ pins) tkS hot).run [] _ _ H' _ (suiteX_of S4) (w a na)) (fun f s6 hsp => ?_) (fun e6 s6 z => hpa (some (.ref a)) e6 s6 z)
    cases f with
    | next => exact let ⟨_, _, S6, q⟩ := hsp; ⟨_, _, unsuiteX S6 ok, q⟩
    | brk => exact let ⟨_, _, S6, q⟩ := hsp; ⟨_, _, unsuiteX S6 ok, q⟩
    | cont => exact let ⟨_, _, S6, q⟩ := hsp; ⟨_, _, unsuiteX S6 ok, q⟩
    | ret u => exact let ⟨_, _, _, S6, r, q⟩ := hsp; ⟨_, _, _, unsuiteX S6 ok, r, q⟩
end
end Gm
/-! a def whose exceptions have no context; C(e, ..) of an own class with its __init__, told with that -/
namespace Gm
open PySem PySem.Spec PyProof.Rows L2 HotX L2H
section
variable {P : Program} {w : World} {K : PySem.W.Frag} {mg : Str → Option Value} {base : Heap}
theorem okN {x qual : Str} {st : Stmt} {f : Addr} {fd : FuncData} {N ps : List Str} {k : Nat} {sp : Sp} (F : Fun K x qual st f fd) (S : FnScope N ps (defScope st)) (ln : ∀ vs H Q E, sp vs H Q E → vs.length = ps.length)
    (hb : ∀ (cdv : Value) (A : Around) (outer : List Env) (s : Shared) (H : Hp) (vs : List V) (Q : VK) (E : XK), Room k (A.deeper (envOfC qual (defScope st) s.heap.objs.size f cdv)) → sp vs H Q E →
      ∃ t, PSs (cxOf (L2N.CX P w) P w K mg base N qual (defScope st) f cdv A outer s H E) (defBody st) t ∧ t { nx := fun _ H' => Q .non H', rt := Q } (start N vs) H) : FnOk P w K mg base (L2N.CX P w) (k + 1) f fd ps sp := by
  obtain ⟨_, _, _, _, _, _, cdv, _, _, rfl, lk, hcd⟩ := F.ex
  exact fn_of lk hcd S ln fun A outer s H vs Q E hr q => hb cdv A outer s H vs Q E hr q
end
section
variable {P : Program} {w : World} {K : PySem.W.Frag} {mg : Str → Option Value} {base : Heap}
/-- a def that runs while an exception is handled -/
theorem okHot {CX : CXT} {x qual : Str} {st : Stmt} {f : Addr} {fd : FuncData} {N ps : List Str} {k : Nat} {sp : Sp} (F : Fun K x qual st f fd) (S : FnScope N ps (defScope st)) (ln : ∀ vs H Q E, sp vs H Q E → vs.length = ps.length)
    (hb : ∀ (cdv : Value) (A : Around) (outer : List Env) (s : Shared) (H : Hp) (vs : List V) (Q : VK) (E : XK) (p : Addr × Obj), Hot1 A p → RoomH k (A.deeper (envOfC qual (defScope st) s.heap.objs.size f cdv)) → sp vs H Q E →
      ∃ t, PSs (cxH CX P w K mg base N qual (defScope st) f cdv A outer s H E p) (defBody st) t ∧ t { nx := fun _ H' => Q .non H', rt := Q } (start N vs) H) : FnH P w K mg base CX (k + 1) f fd ps sp := by
  obtain ⟨_, _, _, _, _, _, cdv, _, _, rfl, lk, hcd⟩ := F.ex
  exact fn_ofH lk hcd S ln fun A outer s H vs Q E p ht hr q => hb cdv A outer s H vs Q E p ht hr q
end
section
variable {X : Cx} {e : Expr} {es : List Expr} {ta : TA} {p pos : Pos}
theorem pmk_oexN {CX : CXT} {x : Str} {C fI : Addr} {k : Nat} {fd : FuncData} {ps : List Str} {sp : Sp} {ds : List Value} {dvs : List V} (T : OexC X.K C) (iC : PySem.W.findIn X.K (.ref C) "__init__" = some (some (.ref fI)))
    (tI : PySem.W.typeIn X.K (.ref fI) = some (.type "function")) (F1 : FnOk X.prog X.w X.K X.mg X.base CX k fI fd ps sp) (hr : Room (k + 1) X.A) (hb : Binds X.K fd ps ds) (hd : Vals dvs ds) (hx : Passes CX X (fun _ _ _ => False))
    (hg : Gl X x) (hm : X.mg x = some (.ref C)) (ha : PA X (e :: es) ta) (hdb : (x == ("__debug__" : Str)) = false := by decide)
    (he : starEach (e :: es) X.env = (false, eval e X.env) :: starEach es X.env := by rfl) (hpl : (backTo pos (starEach es X.env)).any (·.1) = false := by rfl) :
    L2N.PMk X (.Call (.Name x p) (e :: es) [] pos) (tMkO C sp dvs ta) := by
  intro pins s σ H Q I h
  obtain ⟨_, _, _, _, bm, _, _, _, _, _, _, _, _, _, _, hC, hbm⟩ := T.cls
  refine wpAny_Call_Name_kw (ld_glob I hg hm ?_ hdb)
  refine PySem.W.callWith_K (h₀ := X.base) I.ok.mod.kin T.kC (thn (ha.run pos pins s σ H _ I h) fun us s1 ⟨vs, H1, J, r1, hz, q1⟩ => ⟨J.kIn, ?_⟩) he hpl
  show wpAny _ _ (call (.ref C) us) _ _ _
  obtain ⟨hp, g, dr, tk, os⟩ := s1
  obtain ⟨n, hn⟩ : ∃ n, hp.objs.size = n := ⟨_, rfl⟩
  have hlt : hp.objs.size ≤ n + 1 := by rw [hn]; exact Nat.le_succ _
  have fresh : H1 (n + 1) = none := J.hok.fresh hlt
  have hq := q1 (n + 1) fresh
  have kk : ∀ b o, hp.get? b = some o → ((hp.push (PySem.W.kdv_tup us)).push (PySem.HandSPX.excO C n)).get? b = some o := fun b o z => Heap.get?_push_of_some _ (Heap.get?_push_of_some _ z)
  have there : ((hp.push (PySem.W.kdv_tup us)).push (PySem.HandSPX.excO C n)).get? (n + 1) = some (PySem.HandSPX.excO C n) := by subst hn; heap_get
  have J2 : Inv X pins σ (upd H1 (n + 1) (exo (n + 1) C none)) ⟨(hp.push (PySem.W.kdv_tup us)).push (PySem.HandSPX.excO C n), g, dr, tk, os⟩ :=
    J.laid (t' := tk) (a := n + 1) (o := exo (n + 1) C none) (h' := (hp.push (PySem.W.kdv_tup us)).push (PySem.HandSPX.excO C n)) kk hlt (exo_ok there)
  have r2 : Vals (V.ref (n + 1) :: (vs ++ dvs)) (Value.ref (n + 1) :: (us ++ ds)) := .cons rfl (r1.append hd)
  have hl : (Value.ref (n + 1) :: us ++ ds).length = ps.length := by
    have z := r2.length
    rw [F1.len _ _ _ _ hq] at z
    exact z.symm
  have hus : us.length ≤ sizeLine := by rw [← Paired.length r1, sizeLine_eq]; omega
  subst hn
  refine wpAny_call (PySem.HandSPX.call_own F.excBase_ValueError (fun Y => PySem.HandSPX.refsVE_contains Y bm hbm) (J.kIn _ _ hC) (PySem.W.looks_findIn J.kIn iC) (fun self => PySem.W.bind_fn J.kIn self tI) hus ?_)
  refine (codeAny_mono (F1.run _ X.stack _ _ ⟨Value.ref (hp.objs.size + 1) :: us, []⟩ (Value.ref (hp.objs.size + 1) :: (us ++ ds)) _ _ (fun _ _ _ => False) (hr.make C us []) (J2.env0.make C us []) (hb _ _ J2.kIn hl) r2 hq) fun r s' hq' => ?_)
  cases r with
  | error er => exact hx pins σ _ _ er s' J2 hq'
  | ok fl =>
    cases fl with
    | next => exact hq'.elim
    | brk => exact hq'.elim
    | cont => exact hq'.elim
    | ret u =>
      obtain ⟨v, H2, os2, bare2, un2, hok2, rv, ev, d, fs, ea, ed, hd1, q2⟩ := hq'
      subst ev
      obtain ⟨h2, g2, d2, t2, os'⟩ := s'
      obtain ⟨t0, G, JG, kG, ge, hoe, na⟩ := mk_end0 (d2 := d2) (t2 := t2) J hlt kk un2 hok2 os2 bare2 ea ed hd1
      exact ⟨rv, _, _, _, ⟨G, g2, d2, t2, os'⟩, _, .ref C, some d, rfl, JG, kG, ge, hoe, ⟨rfl, rfl, fun vs z => by cases z; rfl⟩, rfl, rfl, na, rfl, bare2, raises_own T.exC T.tyC, q2⟩
end
end Gm
/-! sorted of a list of nested data, any length -/
namespace Gm
open PySem PySem.Spec PyProof.Rows L2
/-- a list of values that read as data -/
def rSortG (K : Frag) : List V → Hp → VK → Prop := fun vs H Q => ∃ (a : Addr) (ps : List (V × PyData)), vs = [.ref a] ∧ SqL K H a (ps.map (·.1)) ∧ (∀ p ∈ ps, Dp K H p.1 p.2) ∧ PySem.W.AllAlike (ps.map (·.2)) ∧ PySem.W.Sortable (ps.map (·.2)) ∧ (∀ p ∈ ps, p.2.depth ≤ 50) ∧
  ∀ q, H q = none → Q (.ref q) (upd H q (.lst ((ps.mergeSort (PySem.W.dataLe false (·.2))).map (·.1))))
theorem each_ps : ∀ {ps : List (V × PyData)} {its : List Value}, Vals (ps.map (·.1)) its → PySem.W.EachIs (fun v (p : V × PyData) => RelV p.1 v) its ps
  | [], _, .nil => .nil
  | _ :: _, _, .cons r t => .cons r (each_ps t)
theorem vals_ps : ∀ {ps : List (V × PyData)} {its : List Value}, PySem.W.EachIs (fun v (p : V × PyData) => RelV p.1 v) its ps → Vals (ps.map (·.1)) its
  | [], _, .nil => .nil
  | _ :: _, _, .cons r t => .cons r (vals_ps t)
section
variable {X : Cx}
theorem cr_sortedG {k : Nat} (hr : Room k X.A) : CallR X (.builtin "sorted") (rSortG X.K) := by
  intro pins s σ H vs us Q I r h
  obtain ⟨a, ps, rfl, hs, hd, hal, hk, hdep, q⟩ := h
  obtain ⟨its, rv, hl, hz⟩ := I.list hs
  rw [Vals.ref1 r]
  have e := each_ps rv
  have er : PySem.W.EachIs (fun v (p : V × PyData) => ∃ as, Reads s.heap v p.2 as) its ps := by
    have : ∀ {ps' : List (V × PyData)} {its : List Value}, (∀ p ∈ ps', p ∈ ps) → PySem.W.EachIs (fun v (p : V × PyData) => RelV p.1 v) its ps' → PySem.W.EachIs (fun v (p : V × PyData) => ∃ as, Reads s.heap v p.2 as) its ps' := by
      intro ps' its hm e
      induction e with
      | nil => exact .nil
      | cons r t ih => exact .cons (Dp.reads I _ _ _ (hd _ (hm _ (List.mem_cons_self ..))) r) (ih fun p hp => hm p (List.mem_cons_of_mem _ hp))
    exact this (fun _ h => h) e
  have hL : ps.length ≤ sizeLine := by rw [List.length_map] at hz; exact hz
  refine PySem.W.sorted_data (R := fun v (p : V × PyData) => RelV p.1 v) (enc := fun p => p.2) hl.isList e er hal hk hL (fun b hb => ?_) fun out hlen hout => ?_
  · have := hr.un
    have := hdep b hb
    omega
  · obtain ⟨ep, he'⟩ := PyProof.Rows.sortedAll_at s.heap its out.toArray
    have hv := vals_ps hout
    have hlen' : ((ps.mergeSort (PySem.W.dataLe false (·.2))).map (·.1)).length ≤ sizeLine := by
      rw [List.length_map, List.length_mergeSort]
      exact hL
    exact ⟨.ref _, upd H (s.heap.objs.size + 1) (.lst ((ps.mergeSort (PySem.W.dataLe false (·.2))).map (·.1))), I.laid (t' := s.toks) (fun _ _ => PyProof.Rows.sortedAll_old) (Nat.le_succ _) ⟨hlen', out, ep, hv, he'⟩, rfl, q _ (I.hok.fresh (Nat.le_succ _))⟩
theorem sortGK (K : Frag) (hK : X.K = K) {k : Nat} (hr : Room k X.A) : CallR X (.builtin "sorted") (rSortG K) := by subst hK; exact cr_sortedG hr
end
/-! ### the order of matrices -/
theorem toks_ints : ∀ {xs ys : List Int} {r r' : List (Int ⊕ List Nat)}, PySem.W.keyToksAll (xs.map PyData.int) ++ r = PySem.W.keyToksAll (ys.map PyData.int) ++ r' → xs = ys ∧ r = r'
  | [], [], _, _, h => by
    refine ⟨rfl, ?_⟩
    simpa [PySem.W.keyToksAll] using h
  | [], y :: ys, _, _, h => by simp [PySem.W.keyToksAll] at h
  | x :: xs, [], _, _, h => by simp [PySem.W.keyToksAll] at h
  | x :: xs, y :: ys, r, r', h => by
    simp only [List.map_cons, PySem.W.keyToksAll, PySem.W.keyToks, List.cons_append, List.nil_append, List.cons.injEq, true_and] at h
    obtain ⟨h1, h2⟩ := h
    obtain ⟨e1, e2⟩ := toks_ints (xs := xs) (ys := ys) h2
    cases h1
    exact ⟨by rw [e1], e2⟩
/-- a matrix as data -/
def dMat (T : List (List Int)) : PyData := .tuple (T.map fun r => .tuple (r.map .int))
theorem toks_mat : ∀ {T S : List (List Int)}, PySem.W.keyToksAll (T.map fun r => PyData.tuple (r.map .int)) = PySem.W.keyToksAll (S.map fun r => PyData.tuple (r.map .int)) → T = S
  | [], [], _ => rfl
  | [], s :: S, h => by simp [PySem.W.keyToksAll] at h
  | t :: T, [], h => by simp [PySem.W.keyToksAll] at h
  | t :: T, s :: S, h => by
    simp only [List.map_cons, PySem.W.keyToksAll, PySem.W.keyToks, List.cons.injEq, true_and] at h
    obtain ⟨e1, e2⟩ := toks_ints h
    rw [e1, toks_mat e2]
def leM (T S : List (List Int)) : Bool := PySem.W.dataLe false dMat T S
theorem leM_tot : PySem.W.TotalLe leM := PySem.W.sortLe_total (PyProof.Rows.listOrd PyProof.Rows.itemOrd) false fun T => PySem.W.keyToks (dMat T)
theorem leM_anti {a b : List (List Int)} (h1 : leM a b = true) (h2 : leM b a = true) : a = b := by
  have h1' : (!PySem.W.dataLt (dMat b) (dMat a)) = true := h1
  have h2' : (!PySem.W.dataLt (dMat a) (dMat b)) = true := h2
  have e := PyProof.Rows.lex_total (O := PyProof.Rows.itemOrd) (PySem.W.keyToks (dMat a)) (PySem.W.keyToks (dMat b)) (by simpa [PySem.W.dataLt] using h2') (by simpa [PySem.W.dataLt] using h1')
  simp only [dMat, PySem.W.keyToks] at e
  exact toks_mat e
theorem perm_uniq : ∀ {xs ys : List (List (List Int))}, xs.Perm ys → xs.Pairwise (fun a b => leM a b = true) → ys.Pairwise (fun a b => leM a b = true) → xs = ys
  | [], ys, h, _, _ => (List.nil_perm.mp h).symm
  | x :: xs, [], h, _, _ => (List.perm_nil.mp h)
  | x :: xs, y :: ys, h, hx, hy => by
    obtain ⟨hx1, hx2⟩ := List.pairwise_cons.mp hx
    obtain ⟨hy1, hy2⟩ := List.pairwise_cons.mp hy
    have e : x = y := by
      have h1 : x ∈ y :: ys := h.mem_iff.mp (List.mem_cons_self ..)
      have h2 : y ∈ x :: xs := h.mem_iff.mpr (List.mem_cons_self ..)
      rcases List.mem_cons.mp h1 with e | h1
      · exact e
      · rcases List.mem_cons.mp h2 with e | h2
        · exact e.symm
        · exact leM_anti (hx1 y h2) (hy1 x h1)
    subst e
    rw [perm_uniq (List.Perm.cons_inv h) hx2 hy2]
def sortM (Ts : List (List (List Int))) : List (List (List Int)) := Ts.mergeSort leM
theorem sortM_perm (Ts : List (List (List Int))) : (sortM Ts).Perm Ts := List.mergeSort_perm _ _
theorem sortM_uniq {Ts Ss : List (List (List Int))} (h : Ts.Perm Ss) : sortM Ts = sortM Ss :=
  perm_uniq ((sortM_perm Ts).trans (h.trans (sortM_perm Ss).symm)) (PySem.W.sort_pairwise leM_tot Ts) (PySem.W.sort_pairwise leM_tot Ss)
/-! ### sorted of matrices -/
theorem dpm_ints {K : Frag} {H : Hp} : ∀ r : List Int, DpAll K H (r.map V.int) (r.map PyData.int)
  | [] => .nil
  | x :: r => .cons (.int _) (dpm_ints r)
theorem dpm_row {K : Frag} {H : Hp} {v : V} {r : List Int} (h : TRow K H v r) : Dp K H v (.tuple (r.map .int)) := by
  obtain ⟨a, rfl, hs⟩ := h
  exact .tup hs (dpm_ints r)
theorem dpm_paired {K : Frag} {H : Hp} : ∀ {vs : List V} {m : List (List Int)}, Paired (TRow K H) vs m → DpAll K H vs (m.map fun r => .tuple (r.map .int))
  | _, _, .nil => .nil
  | _, _, .cons r t => .cons (dpm_row r) (dpm_paired t)
theorem dpm_rows {K : Frag} {H : Hp} {v : V} {m : List (List Int)} (h : TRows K H v m) : Dp K H v (dMat m) := by
  obtain ⟨a, vs, rfl, hs, p⟩ := h
  exact .tup hs (dpm_paired p)
theorem depth_rows : ∀ m : List (List Int), PyData.depthAll (m.map fun r => .tuple (r.map .int)) ≤ 1
  | [] => by simp [PyData.depthAll]
  | r :: m => by
    have := depth_rows m
    show PyData.depthAll (.tuple (r.map .int) :: m.map fun r => .tuple (r.map .int)) ≤ 1
    rw [PyData.depthAll, PyData.depth, PySem.W.depth_ints]
    omega
theorem alike_rows : ∀ m n : List (List Int), PySem.W.alikeAll (m.map fun r => PyData.tuple (r.map .int)) (n.map fun r => PyData.tuple (r.map .int)) = true
  | [], _ => by simp [PySem.W.alikeAll]
  | _ :: _, [] => by simp [PySem.W.alikeAll]
  | x :: m, y :: n => by
    show PySem.W.alikeAll (PyData.tuple (x.map .int) :: m.map fun r => PyData.tuple (r.map .int)) (PyData.tuple (y.map .int) :: n.map fun r => PyData.tuple (r.map .int)) = true
    rw [PySem.W.alikeAll, alike_rows m n, PySem.W.alike, PySem.W.alike_ints]
    rfl
def rSortM (K : Frag) : List V → Hp → VK → Prop := fun vs H Q => ∃ (a : Addr) (xs : List V) (Ts : List (List (List Int))), vs = [.ref a] ∧ SqL K H a xs ∧ Paired (TRows K H) xs Ts ∧ (∀ T ∈ Ts, T ≠ []) ∧
  ∀ q ys, H q = none → Paired (TRows K H) ys (sortM Ts) → Q (.ref q) (upd H q (.lst ys))
theorem paired_zip {α β : Type} {F : α → β → Prop} : ∀ {xs : List α} {ys : List β}, Paired F xs ys → (xs.zip ys).map (·.1) = xs ∧ (xs.zip ys).map (·.2) = ys ∧ ∀ p ∈ xs.zip ys, F p.1 p.2
  | _, _, .nil => ⟨rfl, rfl, fun p hp => by cases hp⟩
  | x :: xs, y :: ys, .cons r t => by
    obtain ⟨h1, h2, h3⟩ := paired_zip t
    refine ⟨by simp [h1], by simp [h2], fun p hp => ?_⟩
    rcases List.mem_cons.mp hp with e | hp
    · subst e; exact r
    · exact h3 p hp
theorem paired_of {α β : Type} {F : α → β → Prop} : ∀ {zs : List (α × β)}, (∀ p ∈ zs, F p.1 p.2) → Paired F (zs.map (·.1)) (zs.map (·.2))
  | [], _ => .nil
  | z :: zs, h => .cons (h z (List.mem_cons_self ..)) (paired_of fun p hp => h p (List.mem_cons_of_mem _ hp))
theorem sortMK {X : Cx} (K : Frag) (hK : X.K = K) {k : Nat} (hr : Room k X.A) : CallR X (.builtin "sorted") (rSortM K) := by
  subst hK
  intro pins s σ H vs us Q I r h
  obtain ⟨a, xs, Ts, rfl, hs, hp, hne, q⟩ := h
  obtain ⟨z1, z2, z3⟩ := paired_zip hp
  let g : V × List (List Int) → V × PyData := fun p => (p.1, dMat p.2)
  have e1 : ((xs.zip Ts).map g).map (·.1) = xs := by rw [List.map_map]; exact z1
  have e2 : ((xs.zip Ts).map g).map (·.2) = ((xs.zip Ts).map (·.2)).map dMat := by rw [List.map_map, List.map_map]; rfl
  refine cr_sortedG hr pins s σ H _ us Q I r ⟨a, (xs.zip Ts).map g, rfl, by rw [e1]; exact hs, ?_, ?_, ?_, ?_, fun p np => ?_⟩
  · intro p hp
    obtain ⟨t, ht, rfl⟩ := List.mem_map.mp hp
    exact dpm_rows (z3 t ht)
  · rw [e2, z2]
    refine PySem.W.AllAlike.of fun b b' => ?_
    rw [dMat, dMat, PySem.W.alike]
    exact alike_rows b b'
  · rw [e2, z2]
    refine .inl fun d hd => ?_
    obtain ⟨T, hT, rfl⟩ := List.mem_map.mp hd
    cases T with
    | nil => exact absurd rfl (hne _ hT)
    | cons t T => exact ⟨_, _, rfl⟩
  · intro p hp
    obtain ⟨t, ht, rfl⟩ := List.mem_map.mp hp
    have := depth_rows t.2
    show (dMat t.2).depth ≤ 50
    rw [dMat, PyData.depth]
    omega
  · have m1 : (((xs.zip Ts).map g).mergeSort (PySem.W.dataLe false (·.2))).map (·.1) = ((xs.zip Ts).mergeSort fun a b => leM a.2 b.2).map (·.1) := by
      rw [← PySem.W.sort_maps (r := fun a b => leM a.2 b.2) g (fun _ _ _ _ => rfl), List.map_map]
      rfl
    have m2 : ((xs.zip Ts).mergeSort fun a b => leM a.2 b.2).map (·.2) = sortM Ts := by
      have e := PySem.W.sort_maps (r := fun a b : V × List (List Int) => leM a.2 b.2) (s := leM) (fun p => p.2) (l := xs.zip Ts) (fun _ _ _ _ => rfl)
      rw [z2] at e
      exact e
    rw [m1]
    refine q p _ np ?_
    rw [← m2]
    exact paired_of fun p hp => z3 p (List.mem_mergeSort.mp hp)
theorem sortIK {X : Cx} (K : Frag) (hK : X.K = K) : CallR X (.builtin "sorted") (rSortedI K) := by subst hK; exact cr_sortedI
end Gm
/-! x not in a tuple whose items are compared by an own __eq__, where one is equal -/
namespace GQ
open PySem PySem.SeqAt
open AutoSeq1 (wpAny_loadPart')
open MeetsSeq MeetsSeq2 MeetsSeq3 SeqRoads2
section
variable {prog : Program} {w : World} {A : Around} {R : Result → Shared → Prop}
theorem tuple_inG (l : Addr) (x : Value) (items : Array Value) (n : Nat) (dd : Option Addr) (sl : Array (Option Value)) (p : Value → Prop) (I : Shared → Prop)
    (turn : ∀ y ∈ items, ∀ s, I s → wpAny (model prog w) A.in1 (eqBool y x) (fun r s' => (p y → r = true) ∧ I s') (fun e s' => R (.error e) s') s)
    (fin : ∀ s, I s → R (.ok (.ret (.bool true))) s) (hp : ∃ y ∈ items, p y) {s : Shared} (hl1 : s.heap.get? l = some { cls := .type "tuple", dict := dd, data := .seq items n, slots := sl }) (h : I s) :
    wpAny (model prog w) A.in1 (Builtin.«tuple.__contains__» ⟨[.ref l, x], []⟩) (FinOf prog w A R) (fun e s' => R (.error e) s') s := by
  have h0 := h
  obtain ⟨hp0, g, d, tk, os⟩ := s
  wp_walk using wpAny_loadPart' hl1, wpAny_forIn_array _ (fun rest b s' => b.1 = none ∧ I s' ∧ (∀ y, y ∈ rest → y ∈ items) ∧ ∃ y ∈ rest, p y) _
  case turn =>
    rintro y rest b s' ⟨hb, hI, hmem, hex⟩
    refine wpAny_bind (wpAny_mono (turn y (hmem y (List.mem_cons_self ..)) s' hI) (fun r s2 q2 => ?_) fun _ _ x => x)
    obtain ⟨hr, q2⟩ := q2
    cases r with
    | true =>
      wp_walk
      exact fin s2 q2
    | false =>
      wp_walk
      refine ⟨rfl, q2, fun z hz => hmem z (List.mem_cons_of_mem _ hz), ?_⟩
      obtain ⟨z, hz, pz⟩ := hex
      rcases List.mem_cons.mp hz with e | hz
      · subst e
        exact absurd (hr pz) (by decide)
      · exact ⟨z, hz, pz⟩
  case fin =>
    rintro ⟨b1, b2⟩ s' ⟨hb, hI, hmem, z, hz, pz⟩
    cases hz
  case h =>
    exact ⟨rfl, h0, fun y hy => by simpa using hy, by simpa using hp⟩
end
section
variable {prog : Program} {w : World} {A : Around} {E : Value → Shared → Prop} {s : Shared}
theorem notIn_tupG {l : Addr} {x : Value} {items : Array Value} {Q : Value → Shared → Prop} (p : Value → Prop) (I : Shared → Prop) (hl : s.heap.IsTuple l items)
    (turn : ∀ y ∈ items, ∀ s, I s → wpAny (model prog w) A.in1 (eqBool y x) (fun r s' => (p y → r = true) ∧ I s') E s)
    (hp : ∃ y ∈ items, p y) (fin : ∀ s, I s → Q (.bool false) s) (h : I s) : wpAny (model prog w) A (compareOp .NotIn x (.ref l)) Q E s := by
  obtain ⟨⟨cls, dd, data, sl⟩, ho, hc, n, hd⟩ := id hl
  simp only at hc hd
  subst hc hd
  show wpAny _ A (do return .bool (!(← contains (.ref l) x))) Q E s
  refine wpAny_bind (wpAny_contains_slot ⟨_, ho, rfl⟩ F.slot_tuple_contains (call_here F.slot_tuple_contains ⟨_, ho, rfl⟩ F.entry_tuple_contains (F.args_tuple_contains_2 _ _) ?_))
  refine tuple_inG (R := wants (fun r s' => wpAny (model prog w) A (truthy r) (fun b s2 => wpAny (model prog w) A (pure (.bool (!b))) Q E s2) E s') E) l x items n dd sl p I turn (fun s' q => ?_) hp ho h
  exact wpAny_truthy_bool (wpAny_pure (fin s' q))
end
end GQ
namespace L2
open PySem PySem.Spec PyProof.Rows
section
variable {X : Cx} {n : Nat}
def rNotInOwn (K : PySem.W.Frag) (C : Addr) (sp : Sp) (E : XK) : R2 := fun x y H Q => ∃ (l b : Addr) (xs : List V) (dy : Addr) (gs : List (Str × V)) (p : V → Prop), y = .ref l ∧ x = .ref b ∧ SqT K H l xs ∧ H b = some (.ins C dy gs) ∧
  (∀ z ∈ xs, ∃ (a : Addr) (dx : Addr) (fs : List (Str × V)), z = .ref a ∧ H a = some (.ins C dx fs) ∧ ∃ r : Bool, (p z → r = true) ∧ sp [.ref a, .ref b] H (fun v H' => v = .bl r ∧ H' = H) E) ∧ (∃ z ∈ xs, p z) ∧ Q (.bl false) H
theorem relV_ref {z : V} {a : Addr} (h : RelV z (.ref a)) : z = .ref a := by
  cases z with
  | ref b => injection (show Value.ref a = Value.ref b from h) with e; rw [e]
  | non => exact absurd (show Value.ref a = Value.none from h) (by simp)
  | bl b => exact absurd (show Value.ref a = Value.bool b from h) (by simp)
  | int i => obtain ⟨t, e⟩ := h; exact absurd e (by simp)
  | str i => obtain ⟨t, e⟩ := h; exact absurd e (by simp)
  | byt i => obtain ⟨t, e⟩ := h; exact absurd e (by simp)
  | flt i => obtain ⟨t, e⟩ := h; exact absurd e (by simp)
  | ty n => exact absurd (show Value.ref a = Value.type n from h) (by simp)
theorem vals_mem {xs : List V} {its : List Value} (r : Vals xs its) {u : Value} (h : u ∈ its) : ∃ x ∈ xs, RelV x u := by
  induction r with
  | nil => cases h
  | cons r t ih =>
    rcases List.mem_cons.mp h with e | h
    · subst e; exact ⟨_, List.mem_cons_self .., r⟩
    · obtain ⟨x, hx, rx⟩ := ih h
      exact ⟨x, List.mem_cons_of_mem _ hx, rx⟩
theorem mem_vals {xs : List V} {its : List Value} (r : Vals xs its) {x : V} (h : x ∈ xs) : ∃ u ∈ its, RelV x u := by
  induction r with
  | nil => cases h
  | cons r t ih =>
    rcases List.mem_cons.mp h with e | h
    · subst e; exact ⟨_, List.mem_cons_self .., r⟩
    · obtain ⟨u, hu, rx⟩ := ih h
      exact ⟨u, List.mem_cons_of_mem _ hu, rx⟩
theorem op_notInOwn {CX : CXT} {C f : Addr} {fd : FuncData} {ps : List Str} {sp : Sp} {E : XK} (F : FnOk X.prog X.w X.K X.mg X.base CX n f fd ps sp)
    (hs : PySem.W.findIn X.K (.ref C) "__eq__" = some (some (.ref f))) (hf : PySem.W.isFn X.K (.ref f) = true) (hb : Binds X.K fd ps []) (hx : Passes CX X E) (hr : Room (n + 1) X.A) : OpR X (compareOp .NotIn) (rNotInOwn X.K C sp E) := by
  intro pins s σ H x y v u Q I rx ry h
  obtain ⟨l, b, xs, dy, gs, p, rfl, rfl, hl, hb', hall, hex, q⟩ := h
  cases rx
  cases ry
  obtain ⟨its, r, e, z⟩ := I.tuple hl
  refine GQ.notIn_tupG (fun w => ∃ z, RelV z w ∧ z ∈ xs ∧ p z) (fun s' => Inv X pins σ H s') e (fun y hy s' I' => ?_) ?_ (fun s' I' => ⟨.bl false, H, I', rfl, q⟩) I
  · have hy' : y ∈ its := by simpa using hy
    obtain ⟨z0, hz0, rz0⟩ := vals_mem r hy'
    obtain ⟨a, dx, fs, rfl, ha, r0, hp0, hsp⟩ := hall z0 hz0
    cases rz0
    have hpe : (∃ z, RelV z (.ref a) ∧ z ∈ xs ∧ p z) → r0 = true := fun ⟨z, rz, hz, pz⟩ => by
      have e := relV_ref rz
      subst e
      exact hp0 pz
    by_cases hab : a = b
    · subst hab
      exact SeqAt.EqAt.same (A := X.A.in1) (s := s') (.ref a) X.prog X.w X.xe _ ⟨fun _ => rfl, I'⟩
    · refine GQ.eqBool_refG hab ?_
      have sb : Sub X n X.A.in1 := ⟨hr.in1, rfl⟩
      obtain ⟨mA, J, _⟩ := ins_get I'.hok ha
      obtain ⟨mB, J', _⟩ := ins_get I'.hok hb'
      obtain ⟨od, J, _⟩ := J.look
      obtain ⟨od', J', _⟩ := J'.look
      obtain ⟨m, hF⟩ := I'.fr
      refine PySem.W.cmp_K (op := .Eq) (tb := .ref C) sb.room.units0 hF I'.ok.mod.kin J J'.type (by simp [PySem.W.notFirst]) hs hf ?_
      have e0 : Env0 X.prog X.w X.K X.mg X.base X.A.in1 X.stack s' H := by
        have e := I'.env0
        exact ⟨by rw [sb.fr]; exact e.frames, e.mod, e.bs, e.bsz, e.funs, e.frf, e.hok, e.bare⟩
      have hl' := F.len _ _ _ _ hsp
      have r2 : Vals [V.ref a, V.ref b] [Value.ref a, Value.ref b] := .cons rfl (.cons rfl .nil)
      refine wpAny_call (codeAny_mono (F.run X.A.in1 X.stack s' H ⟨[.ref a, .ref b], []⟩ [.ref a, .ref b] [.ref a, .ref b] _ E sb.room e0 (by
        have := hb s' [.ref a, .ref b] I'.kIn (by simpa using hl')
        simpa using this) r2 hsp) fun r s2 hq => ?_)
      cases r with
      | error e => exact hx pins σ H s' e s2 I' hq
      | ok fl =>
        cases fl with
        | ret w =>
          obtain ⟨z, H', I2, rz, ez, ex⟩ := I'.after hq
          subst ez
          subst ex
          cases rz
          exact ⟨r0, rfl, hpe, I2⟩
        | next => exact False.elim hq
        | brk => exact False.elim hq
        | cont => exact False.elim hq
  · obtain ⟨z, hz, pz⟩ := hex
    obtain ⟨u, hu, ru⟩ := mem_vals r hz
    exact ⟨u, by simpa using hu, z, ru, hz, pz⟩
end
end L2
/-! [e for x in .. for y in ..]: the list is as.flatMap f -/
namespace Gm
open PySem PySem.Spec PyProof.Rows L2
theorem lc2_gen3 {J : It} {n : Nat} {G : Hp → Prop} {Y : Nat → Hp → V → Hp → Prop} (w : Walk J n G Y) {g g1 : TG} {wi1 : TI} {te : TE} {vs vs1 : List Nat} {σ : L2.St} {H1 : Hp} {D : Addr} {Qd : Hp → Prop}
    (Pv : Nat → Hp → Prop) (h0 : Pv 0 (upd H1 D (.lst []))) (hG : ∀ i H, i ≤ n → Pv i H → G H)
    (gm : ∀ x σ1 H (Q Q' : L2.St → Hp → Prop), (∀ σ2 H2, Q σ2 H2 → Q' σ2 H2) → g x σ1 H Q → g x σ1 H Q')
    (gm1 : ∀ x σ1 H (Q Q' : L2.St → Hp → Prop), (∀ σ2 H2, Q σ2 H2 → Q' σ2 H2) → g1 x σ1 H Q → g1 x σ1 H Q')
    (step : ∀ (i : Nat) (x : V) (H H' : Hp) (R : L2.St → It → Hp → Prop), i < n → Pv i H → Y i H x H' →
      (∀ (σ2 : L2.St) (J1 : It) (H4 : Hp) (n1 : Nat) (G1 : Hp → Prop) (Y1 : Nat → Hp → V → Hp → Prop) (Pj : Nat → Hp → Prop), Walk J1 n1 G1 Y1 → Pj 0 H4 → (∀ j H, j ≤ n1 → Pj j H → G1 H) → (∀ H, Pj n1 H → Pv (i + 1) H) →
        (∀ (j : Nat) (y : V) (H5 H5' : Hp) (Ko : VK), j < n1 → Pj j H5 → Y1 j H5 y H5' → (∀ z H7, (∃ acc, H7 D = some (.lst acc) ∧ acc.length < sizeLine ∧ Pj (j + 1) (upd H7 D (.lst (acc ++ [z])))) → Ko z H7) → g1 y (wipe σ2 vs1) H5' fun σ3 H6 => wipe σ3 vs1 = wipe σ2 vs1 ∧ te σ3 H6 Ko) → R σ2 J1 H4) →
      g x (wipe σ vs) H' fun σ2 H2 => wipe σ2 vs = wipe σ vs ∧ wi1 σ2 H2 (R σ2))
    (done : ∀ H, Pv n H → Qd H) :
    ∃ W : Nat → Nat → Hp → Prop, (∃ m, W 0 m (upd H1 D (.lst []))) ∧ ∀ i m H, W i m H →
  (J.stop i H ∧ Qd H) ∨ (J.go i H ∧ ∃ Nx : Hp → Prop, (∀ H', Nx H' → ∃ m', m' < m ∧ W (i + 1) m' H') ∧ ∀ x H', J.yld i H x H' → g x (wipe σ vs) H' fun σ2 H2 => wipe σ2 vs = wipe σ vs ∧ tYes σ2 H2 fun b H3 =>
    if b = true then wi1 σ2 H3 fun J1 H4 => ∃ W1 : Nat → Nat → Hp → Prop, (∃ m, W1 0 m H4) ∧ ∀ j2 k H, W1 j2 k H →
      (J1.stop j2 H ∧ Nx H) ∨ (J1.go j2 H ∧ ∃ Nx1 : Hp → Prop, (∀ H', Nx1 H' → ∃ k', k' < k ∧ W1 (j2 + 1) k' H') ∧ ∀ x H', J1.yld j2 H x H' → g1 x (wipe σ2 vs1) H' fun σ3 H5 => wipe σ3 vs1 = wipe σ2 vs1 ∧ tYes σ3 H5 fun b H6 =>
        if b = true then te σ3 H6 fun y H7 => ∃ acc, H7 D = some (.lst acc) ∧ acc.length < sizeLine ∧ Nx1 (upd H7 D (.lst (acc ++ [y]))) else Nx1 H6)
    else Nx H3) := by
  refine ⟨fun i k H => k = n - i ∧ i ≤ n ∧ Pv i H, ⟨n, by simp, Nat.zero_le _, h0⟩, ?_⟩
  rintro i k H ⟨rfl, hi, pv⟩
  by_cases hlt : i < n
  · refine .inr ⟨w.goes i H hlt (hG i H hi pv), Pv (i + 1), fun H' p' => ⟨n - (i + 1), by omega, rfl, hlt, p'⟩, fun x H' y => ?_⟩
    have yy := w.yields i H x H' hlt (hG i H hi pv) y
    refine gm _ _ _ _ _ (fun σ2 H2 q => ⟨q.1, tyes_of q.2⟩) (step i x H H' (fun σ2 J1 H4 => ∃ W1 : Nat → Nat → Hp → Prop, (∃ m, W1 0 m H4) ∧ ∀ j2 k H, W1 j2 k H →
      (J1.stop j2 H ∧ Pv (i + 1) H) ∨ (J1.go j2 H ∧ ∃ Nx1 : Hp → Prop, (∀ H', Nx1 H' → ∃ k', k' < k ∧ W1 (j2 + 1) k' H') ∧ ∀ x H', J1.yld j2 H x H' → g1 x (wipe σ2 vs1) H' fun σ3 H5 => wipe σ3 vs1 = wipe σ2 vs1 ∧ tYes σ3 H5 fun b H6 =>
        if b = true then te σ3 H6 fun y H7 => ∃ acc, H7 D = some (.lst acc) ∧ acc.length < sizeLine ∧ Nx1 (upd H7 D (.lst (acc ++ [y]))) else Nx1 H6)) hlt pv yy fun σ2 J1 H4 n1 G1 Y1 Pj w1 p0 hG1 pe st => ?_)
    refine ⟨fun j k H => k = n1 - j ∧ j ≤ n1 ∧ Pj j H, ⟨n1, by simp, Nat.zero_le _, p0⟩, ?_⟩
    rintro j k H5 ⟨rfl, hj, pj⟩
    by_cases hlt1 : j < n1
    · refine .inr ⟨w1.goes j H5 hlt1 (hG1 j H5 hj pj), Pj (j + 1), fun H' p' => ⟨n1 - (j + 1), by omega, rfl, hlt1, p'⟩, fun z H6 y1 => ?_⟩
      have yy1 := w1.yields j H5 z H6 hlt1 (hG1 j H5 hj pj) y1
      exact gm1 _ _ _ _ _ (fun σ3 H7 q => ⟨q.1, tyes_of q.2⟩) (st j z H5 H6 _ hlt1 pj yy1 fun _ _ h => h)
    · have e : j = n1 := by omega
      subst e
      exact .inl ⟨w1.stops H5 (hG1 j H5 hj pj), pe H5 pj⟩
  · have e : i = n := by omega
    subst e
    exact .inl ⟨w.stops H (hG i H hi pv), done H pv⟩
theorem same_offD {H H' : Hp} {D : Addr} (e : Same H H') : Off D H H' := Same.off e
theorem same_updD {H1 H : Hp} {D : Addr} {o : HO} (hD : H1 D = none) (e : Same H1 H) : Same H1 (upd H D o) := fun b x h => by
  rw [upd_ne (ne_of_none h hD)]
  exact e b x h
theorem paired_snoc {α β : Type} {F : α → β → Prop} {x : α} {y : β} : ∀ {xs : List α} {ys : List β}, Paired F xs ys → F x y → Paired F (xs ++ [x]) (ys ++ [y])
  | _, _, .nil, h => .cons h .nil
  | _, _, .cons r t, h => .cons r (paired_snoc t h)
theorem lc2_flat {α β : Type} {J : It} {n : Nat} {G : Hp → Prop} {Y : Nat → Hp → V → Hp → Prop} (w : Walk J n G Y) {g g1 : TG} {wi1 : TI} {te : TE} {vs vs1 : List Nat} {σ : L2.St} {H1 : Hp} {D : Addr} {Qd : Hp → Prop}
    (as : List α) (f : α → List β) (F : Hp → V → β → Prop) (hn : n = as.length) (hsz : (as.flatMap f).length < sizeLine) (hD : H1 D = none) (hG : ∀ H, Same H1 H → G H)
    (mono : ∀ v b H H' acc, H D = some (.lst acc) → Off D H H' → F H v b → F H' v b)
    (gm : ∀ x σ1 H (Q Q' : L2.St → Hp → Prop), (∀ σ2 H2, Q σ2 H2 → Q' σ2 H2) → g x σ1 H Q → g x σ1 H Q')
    (gm1 : ∀ x σ1 H (Q Q' : L2.St → Hp → Prop), (∀ σ2 H2, Q σ2 H2 → Q' σ2 H2) → g1 x σ1 H Q → g1 x σ1 H Q')
    (step : ∀ (i : Nat) (x : V) (H H' : Hp) (acc : List V) (R : L2.St → It → Hp → Prop) (a : α), as[i]? = some a → Same H1 H → H D = some (.lst acc) → Y i H x H' →
      (∀ (σ2 : L2.St) (J1 : It) (H4 : Hp) (n1 : Nat) (G1 : Hp → Prop) (Y1 : Nat → Hp → V → Hp → Prop), Walk J1 n1 G1 Y1 → n1 = (f a).length → Same H H4 → (∀ H5 acc, H4 D = some (.lst acc) → Off D H4 H5 → G1 H5) →
        (∀ (j : Nat) (y : V) (H5 H5' : Hp) (acc5 : List V) (Ko : VK) (b : β), (f a)[j]? = some b → Same H1 H5 → H4 D = some (.lst acc) → Off D H4 H5 → H5 D = some (.lst acc5) → Y1 j H5 y H5' → (∀ z H7, Same H5 H7 → F H7 z b → Ko z H7) → g1 y (wipe σ2 vs1) H5' fun σ3 H6 => wipe σ3 vs1 = wipe σ2 vs1 ∧ te σ3 H6 Ko) → R σ2 J1 H4) →
      g x (wipe σ vs) H' fun σ2 H2 => wipe σ2 vs = wipe σ vs ∧ wi1 σ2 H2 (R σ2))
    (done : ∀ H l, Same H1 H → H D = some (.lst l) → Paired (F H) l (as.flatMap f) → Qd H) :
    ∃ W : Nat → Nat → Hp → Prop, (∃ m, W 0 m (upd H1 D (.lst []))) ∧ ∀ i m H, W i m H →
  (J.stop i H ∧ Qd H) ∨ (J.go i H ∧ ∃ Nx : Hp → Prop, (∀ H', Nx H' → ∃ m', m' < m ∧ W (i + 1) m' H') ∧ ∀ x H', J.yld i H x H' → g x (wipe σ vs) H' fun σ2 H2 => wipe σ2 vs = wipe σ vs ∧ tYes σ2 H2 fun b H3 =>
    if b = true then wi1 σ2 H3 fun J1 H4 => ∃ W1 : Nat → Nat → Hp → Prop, (∃ m, W1 0 m H4) ∧ ∀ j2 k H, W1 j2 k H →
      (J1.stop j2 H ∧ Nx H) ∨ (J1.go j2 H ∧ ∃ Nx1 : Hp → Prop, (∀ H', Nx1 H' → ∃ k', k' < k ∧ W1 (j2 + 1) k' H') ∧ ∀ x H', J1.yld j2 H x H' → g1 x (wipe σ2 vs1) H' fun σ3 H5 => wipe σ3 vs1 = wipe σ2 vs1 ∧ tYes σ3 H5 fun b H6 =>
        if b = true then te σ3 H6 fun y H7 => ∃ acc, H7 D = some (.lst acc) ∧ acc.length < sizeLine ∧ Nx1 (upd H7 D (.lst (acc ++ [y]))) else Nx1 H6)
    else Nx H3) := by
  refine lc2_gen3 w (fun i H => Same H1 H ∧ ∃ l, H D = some (.lst l) ∧ Paired (F H) l ((as.take i).flatMap f)) ⟨same_updD hD fun _ _ h => h, [], upd_same, by rw [List.take_zero]; exact .nil⟩ (fun i H _ h => hG H h.1) gm gm1 ?_ ?_
  · rintro i x H H' R hi ⟨s, l, hl, hp⟩ y k
    have hi' : i < as.length := by omega
    have ea := List.getElem?_eq_getElem hi'
    refine step i x H H' l R as[i] ea s hl y fun σ2 J1 H4 n1 G1 Y1 w1 en s4 hG1 st => ?_
    have hl4 : H4 D = some (.lst l) := s4 _ _ hl
    have s14 : Same H1 H4 := fun b o h => s4 b o (s b o h)
    have hpre : ∀ j, ((as.take i).flatMap f ++ (f as[i]).take j).length ≤ (as.flatMap f).length := fun j => by
      have e : as.flatMap f = (as.take i).flatMap f ++ (f as[i] ++ (as.drop (i + 1)).flatMap f) := by
        conv => lhs; rw [← List.take_append_drop i as, List.drop_eq_getElem_cons hi', List.flatMap_append, List.flatMap_cons]
      rw [e, List.length_append, List.length_append, List.length_append, List.length_take]
      omega
    refine k σ2 J1 H4 n1 G1 Y1 (fun j H5 => Same H1 H5 ∧ Off D H4 H5 ∧ ∃ l5, H5 D = some (.lst l5) ∧ Paired (F H5) l5 ((as.take i).flatMap f ++ (f as[i]).take j)) w1 ⟨s14, fun b o _ h => h, l, hl4, ?_⟩ (fun j H5 _ h => hG1 H5 l hl4 h.2.1) (fun H5 h => ?_) ?_
    · rw [List.take_zero, List.append_nil]
      exact L2.Paired.mapP hp fun v b h => mono v b H H4 l hl (Same.off s4) h
    · obtain ⟨a1, a2, l5, a3, a4⟩ := h
      refine ⟨a1, l5, a3, ?_⟩
      rw [List.take_succ, ea, List.flatMap_append]
      rw [en, List.take_length] at a4
      simpa using a4
    · rintro j z H5 H5' Ko hj ⟨a1, a2, l5, a3, a4⟩ yz kk
      have hj' : j < (f as[i]).length := by omega
      have eb := List.getElem?_eq_getElem hj'
      refine st j z H5 H5' l5 Ko (f as[i])[j] eb a1 hl4 a2 a3 yz fun v H7 s7 hF => ?_
      have h7 : H7 D = some (.lst l5) := s7 _ _ a3
      refine kk v H7 ⟨l5, h7, ?_, ?_, ?_, l5 ++ [v], upd_same, ?_⟩
      · have h1 := Paired.length a4
        have h2 := hpre j
        omega
      · exact same_updD hD fun b o h => s7 b o (a1 b o h)
      · exact Off.trans a2 (Off.trans (Same.off s7) Off.upd)
      · have e : (f as[i]).take (j + 1) = (f as[i]).take j ++ [(f as[i])[j]] := by rw [List.take_succ, eb]; rfl
        rw [e, ← List.append_assoc]
        refine paired_snoc (L2.Paired.mapP a4 fun u b h => ?_) (mono v _ H7 _ l5 h7 Off.upd hF)
        exact mono u b H7 _ l5 h7 Off.upd (mono u b H5 H7 l5 a3 (Same.off s7) h)
  · rintro H ⟨s, l, hl, hp⟩
    rw [hn, List.take_length] at hp
    exact done H l s hl hp
end Gm
namespace K44
open PySem PySem.Spec PyProof.Rows L2 Gm
def topS (i : Nat) : Stmt := PySem.Challenge.pw_gridmetric_k44_sublattices_of_an_index.main.body.getD i (.Pass ⟨0, 0, 0, 0⟩)
abbrev s_Refused_init : Stmt := inClass (topS 4) 0
theorem sc_Refused_init : FnScope ["self", "reason"] ["self", "reason"] (defScope s_Refused_init) := ⟨rfl, rfl, rfl, by decide +kernel, rfl, by decide +kernel, by decide +kernel⟩
abbrev s_is_integer : Stmt := topS 6
theorem sc_is_integer : FnScope ["value"] ["value"] (defScope s_is_integer) := ⟨rfl, rfl, rfl, by decide +kernel, rfl, by decide +kernel, by decide +kernel⟩
abbrev s_cofactors : Stmt := topS 7
theorem sc_cofactors : FnScope ["a", "b", "last", "last_u", "last_v", "g", "u", "v", "times"] ["a", "b"] (defScope s_cofactors) := ⟨rfl, rfl, rfl, by decide +kernel, rfl, by decide +kernel, by decide +kernel⟩
abbrev s_divisors : Stmt := topS 9
theorem sc_divisors : FnScope ["n", "found", "prime", "many"] ["n"] (defScope s_divisors) := ⟨rfl, rfl, rfl, by decide +kernel, rfl, by decide +kernel, by decide +kernel⟩
abbrev s_with_powers : Stmt := topS 10
theorem sc_with_powers : FnScope ["numbers", "prime", "many", "found", "layer", "_", "number"] ["numbers", "prime", "many"] (defScope s_with_powers) := ⟨rfl, rfl, rfl, by decide +kernel, rfl, by decide +kernel, by decide +kernel⟩
abbrev s_hermite_rows : Stmt := topS 12
theorem sc_hermite_rows : FnScope ["rows", "tops", "row", "column"] ["rows"] (defScope s_hermite_rows) := ⟨rfl, rfl, rfl, by decide +kernel, rfl, by decide +kernel, by decide +kernel⟩
abbrev s_with_row : Stmt := topS 13
theorem sc_with_row : FnScope ["tops", "row", "found", "column", "top", "item"] ["tops", "row"] (defScope s_with_row) := ⟨rfl, rfl, rfl, by decide +kernel, rfl, by decide +kernel, by decide +kernel⟩
abbrev s_merged : Stmt := topS 14
theorem sc_merged : FnScope ["top", "row", "column", "g", "u", "v"] ["top", "row", "column"] (defScope s_merged) := ⟨rfl, rfl, rfl, by decide +kernel, rfl, by decide +kernel, by decide +kernel⟩
abbrev s_mixed : Stmt := topS 15
theorem sc_mixed : FnScope ["a", "first", "b", "second", "x", "y"] ["a", "first", "b", "second"] (defScope s_mixed) := ⟨rfl, rfl, rfl, by decide +kernel, rfl, by decide +kernel, by decide +kernel⟩
abbrev s_tidied : Stmt := topS 16
theorem sc_tidied : FnScope ["tops", "done", "column"] ["tops"] (defScope s_tidied) := ⟨rfl, rfl, rfl, by decide +kernel, rfl, by decide +kernel, by decide +kernel⟩
abbrev s_reduced : Stmt := topS 17
theorem sc_reduced : FnScope ["row", "tops", "column", "top", "times"] ["row", "tops"] (defScope s_reduced) := ⟨rfl, rfl, rfl, by decide +kernel, rfl, by decide +kernel, by decide +kernel⟩
abbrev s_Grid_init : Stmt := inClass (topS 23) 0
theorem sc_Grid_init : FnScope ["self", "rows", "width"] ["self", "rows", "width"] (defScope s_Grid_init) := ⟨rfl, rfl, rfl, by decide +kernel, rfl, by decide +kernel, by decide +kernel⟩
abbrev s_Grid_eq : Stmt := inClass (topS 23) 1
theorem sc_Grid_eq : FnScope ["self", "other"] ["self", "other"] (defScope s_Grid_eq) := ⟨rfl, rfl, rfl, by decide +kernel, rfl, by decide +kernel, by decide +kernel⟩
abbrev s_Grid_hermite : Stmt := inClass (topS 23) 18
theorem sc_Grid_hermite : FnScope ["self", "units", "noted", "h", "u", "row", "one"] ["self"] (defScope s_Grid_hermite) := ⟨rfl, rfl, rfl, by decide +kernel, rfl, by decide +kernel, by decide +kernel⟩
abbrev s_checked_rows : Stmt := topS 24
theorem sc_checked_rows : FnScope ["rows", "row", "item"] ["rows"] (defScope s_checked_rows) := ⟨rfl, rfl, rfl, by decide +kernel, rfl, by decide +kernel, by decide +kernel⟩
abbrev s_checked_width : Stmt := topS 25
theorem sc_checked_width : FnScope ["rows", "width", "row"] ["rows", "width"] (defScope s_checked_width) := ⟨rfl, rfl, rfl, by decide +kernel, rfl, by decide +kernel, by decide +kernel⟩
abbrev s_unit : Stmt := topS 28
theorem sc_unit : FnScope ["n"] ["n"] (defScope s_unit) := ⟨rfl, rfl, rfl, by decide +kernel, rfl, by decide +kernel, by decide +kernel⟩
abbrev s_diagonal : Stmt := topS 29
theorem sc_diagonal : FnScope ["numbers", "places", "i", "j"] ["numbers"] (defScope s_diagonal) := ⟨rfl, rfl, rfl, by decide +kernel, rfl, by decide +kernel, by decide +kernel⟩
abbrev s_sublattices : Stmt := topS 33
theorem sc_sublattices : FnScope ["n", "index", "found", "pivots", "rows"] ["n", "index"] (defScope s_sublattices) := ⟨rfl, rfl, rfl, by decide +kernel, rfl, by decide +kernel, by decide +kernel⟩
abbrev s_check_number : Stmt := topS 34
theorem sc_check_number : FnScope ["value", "most"] ["value", "most"] (defScope s_check_number) := ⟨rfl, rfl, rfl, by decide +kernel, rfl, by decide +kernel, by decide +kernel⟩
abbrev s_pivot_tuples : Stmt := topS 35
theorem sc_pivot_tuples : FnScope ["n", "index", "found", "_", "one", "left", "p"] ["n", "index"] (defScope s_pivot_tuples) := ⟨rfl, rfl, rfl, by decide +kernel, rfl, by decide +kernel, by decide +kernel⟩
abbrev s_forms_with : Stmt := topS 36
theorem sc_forms_with : FnScope ["pivots", "found", "k", "rows", "pivot", "row", "item", "one"] ["pivots"] (defScope s_forms_with) := ⟨rfl, rfl, rfl, by decide +kernel, rfl, by decide +kernel, by decide +kernel⟩
abbrev s_law_state : Stmt := topS 38
theorem sc_law_state : FnScope ["script", "seed", "total", "cell"] ["script"] (defScope s_law_state) := ⟨rfl, rfl, rfl, by decide +kernel, rfl, by decide +kernel, by decide +kernel⟩
abbrev s_law_take : Stmt := topS 39
theorem sc_law_take : FnScope ["state", "m", "value"] ["state", "m"] (defScope s_law_take) := ⟨rfl, rfl, rfl, by decide +kernel, rfl, by decide +kernel, by decide +kernel⟩
abbrev s_law_product : Stmt := topS 40
theorem sc_law_product : FnScope ["a", "b", "width", "out", "row", "line", "k", "total", "j"] ["a", "b", "width"] (defScope s_law_product) := ⟨rfl, rfl, rfl, by decide +kernel, rfl, by decide +kernel, by decide +kernel⟩
abbrev s_law_unit : Stmt := topS 41
theorem sc_law_unit : FnScope ["n", "i", "k"] ["n"] (defScope s_law_unit) := ⟨rfl, rfl, rfl, by decide +kernel, rfl, by decide +kernel, by decide +kernel⟩
abbrev s_law_step : Stmt := topS 42
theorem sc_law_step : FnScope ["rows", "i", "k", "factor", "out", "x", "y"] ["rows", "i", "k", "factor"] (defScope s_law_step) := ⟨rfl, rfl, rfl, by decide +kernel, rfl, by decide +kernel, by decide +kernel⟩
abbrev s_law_unimodular : Stmt := topS 43
theorem sc_law_unimodular : FnScope ["state", "n", "rows", "turn"] ["state", "n"] (defScope s_law_unimodular) := ⟨rfl, rfl, rfl, by decide +kernel, rfl, by decide +kernel, by decide +kernel⟩
abbrev s_law_longer : Stmt := topS 44
theorem sc_law_longer : FnScope ["rows", "pivot", "out", "row", "x"] ["rows", "pivot"] (defScope s_law_longer) := ⟨rfl, rfl, rfl, by decide +kernel, rfl, by decide +kernel, by decide +kernel⟩
abbrev s_law_tables : Stmt := topS 45
theorem sc_law_tables : FnScope ["n", "index", "at", "out", "head", "table", "rows", "k", "row"] ["n", "index", "at"] (defScope s_law_tables) := ⟨rfl, rfl, rfl, by decide +kernel, rfl, by decide +kernel, by decide +kernel⟩
abbrev s_law_refused : Stmt := topS 46
theorem sc_law_refused : FnScope ["n", "index", "e"] ["n", "index"] (defScope s_law_refused) := ⟨rfl, rfl, rfl, by decide +kernel, rfl, by decide +kernel, by decide +kernel⟩
abbrev s_law : Stmt := topS 47
theorem sc_law : FnScope ["script", "state", "n", "index", "found", "due", "grid", "rest", "rows", "i", "heads", "head", "mixed_v", "k"] ["script"] (defScope s_law) := ⟨rfl, rfl, rfl, by decide +kernel, rfl, by decide +kernel, by decide +kernel⟩
structure Top (K : PySem.W.Frag) (mg : Str → Option Value) where
  a_Refused_init : Addr
  a_is_integer : Addr
  a_cofactors : Addr
  a_divisors : Addr
  a_with_powers : Addr
  a_hermite_rows : Addr
  a_with_row : Addr
  a_merged : Addr
  a_mixed : Addr
  a_tidied : Addr
  a_reduced : Addr
  a_Grid_init : Addr
  a_Grid_eq : Addr
  a_Grid_hermite : Addr
  a_checked_rows : Addr
  a_checked_width : Addr
  a_unit : Addr
  a_diagonal : Addr
  a_sublattices : Addr
  a_check_number : Addr
  a_pivot_tuples : Addr
  a_forms_with : Addr
  a_law_state : Addr
  a_law_take : Addr
  a_law_product : Addr
  a_law_unit : Addr
  a_law_step : Addr
  a_law_unimodular : Addr
  a_law_longer : Addr
  a_law_tables : Addr
  a_law_refused : Addr
  a_law : Addr
  k_MOST_INDEX : Tok
  k_MOST_SIZE : Tok
  d_Refused_init : FuncData
  d_is_integer : FuncData
  d_cofactors : FuncData
  d_divisors : FuncData
  d_with_powers : FuncData
  d_hermite_rows : FuncData
  d_with_row : FuncData
  d_merged : FuncData
  d_mixed : FuncData
  d_tidied : FuncData
  d_reduced : FuncData
  d_Grid_init : FuncData
  d_Grid_eq : FuncData
  d_Grid_hermite : FuncData
  d_checked_rows : FuncData
  d_checked_width : FuncData
  d_unit : FuncData
  d_diagonal : FuncData
  d_sublattices : FuncData
  d_check_number : FuncData
  d_pivot_tuples : FuncData
  d_forms_with : FuncData
  d_law_state : FuncData
  d_law_take : FuncData
  d_law_product : FuncData
  d_law_unit : FuncData
  d_law_step : FuncData
  d_law_unimodular : FuncData
  d_law_longer : FuncData
  d_law_tables : FuncData
  d_law_refused : FuncData
  d_law : FuncData
  C_Grid : Addr
  X_Malformed : Addr
  X_Refused : Addr
  F_Refused_init : Fun K "__init__" "Refused.__init__" s_Refused_init a_Refused_init d_Refused_init
  b_Refused_init : Binds K d_Refused_init ["self", "reason"] []
  F_is_integer : Fun K "is_integer" "is_integer" s_is_integer a_is_integer d_is_integer
  b_is_integer : Binds K d_is_integer ["value"] []
  g_is_integer : mg "is_integer" = some (.ref a_is_integer)
  F_cofactors : Fun K "cofactors" "cofactors" s_cofactors a_cofactors d_cofactors
  b_cofactors : Binds K d_cofactors ["a", "b"] []
  g_cofactors : mg "cofactors" = some (.ref a_cofactors)
  F_divisors : Fun K "divisors" "divisors" s_divisors a_divisors d_divisors
  b_divisors : Binds K d_divisors ["n"] []
  g_divisors : mg "divisors" = some (.ref a_divisors)
  F_with_powers : Fun K "with_powers" "with_powers" s_with_powers a_with_powers d_with_powers
  b_with_powers : Binds K d_with_powers ["numbers", "prime", "many"] []
  g_with_powers : mg "with_powers" = some (.ref a_with_powers)
  F_hermite_rows : Fun K "hermite_rows" "hermite_rows" s_hermite_rows a_hermite_rows d_hermite_rows
  b_hermite_rows : Binds K d_hermite_rows ["rows"] []
  g_hermite_rows : mg "hermite_rows" = some (.ref a_hermite_rows)
  F_with_row : Fun K "with_row" "with_row" s_with_row a_with_row d_with_row
  b_with_row : Binds K d_with_row ["tops", "row"] []
  g_with_row : mg "with_row" = some (.ref a_with_row)
  F_merged : Fun K "merged" "merged" s_merged a_merged d_merged
  b_merged : Binds K d_merged ["top", "row", "column"] []
  g_merged : mg "merged" = some (.ref a_merged)
  F_mixed : Fun K "mixed" "mixed" s_mixed a_mixed d_mixed
  b_mixed : Binds K d_mixed ["a", "first", "b", "second"] []
  g_mixed : mg "mixed" = some (.ref a_mixed)
  F_tidied : Fun K "tidied" "tidied" s_tidied a_tidied d_tidied
  b_tidied : Binds K d_tidied ["tops"] []
  g_tidied : mg "tidied" = some (.ref a_tidied)
  F_reduced : Fun K "reduced" "reduced" s_reduced a_reduced d_reduced
  b_reduced : Binds K d_reduced ["row", "tops"] []
  g_reduced : mg "reduced" = some (.ref a_reduced)
  F_Grid_init : FunD K "__init__" "Grid.__init__" (defArgs s_Grid_init) (defBody s_Grid_init) (defScope s_Grid_init) [.non] [] a_Grid_init d_Grid_init
  b_Grid_init : Binds K d_Grid_init ["self", "rows", "width"] []
  F_Grid_eq : Fun K "__eq__" "Grid.__eq__" s_Grid_eq a_Grid_eq d_Grid_eq
  b_Grid_eq : Binds K d_Grid_eq ["self", "other"] []
  m_Grid_eq : Meth K C_Grid "__eq__" a_Grid_eq
  F_Grid_hermite : Fun K "hermite" "Grid.hermite" s_Grid_hermite a_Grid_hermite d_Grid_hermite
  b_Grid_hermite : Binds K d_Grid_hermite ["self"] []
  m_Grid_hermite : Meth K C_Grid "hermite" a_Grid_hermite
  F_checked_rows : Fun K "checked_rows" "checked_rows" s_checked_rows a_checked_rows d_checked_rows
  b_checked_rows : Binds K d_checked_rows ["rows"] []
  g_checked_rows : mg "checked_rows" = some (.ref a_checked_rows)
  F_checked_width : Fun K "checked_width" "checked_width" s_checked_width a_checked_width d_checked_width
  b_checked_width : Binds K d_checked_width ["rows", "width"] []
  g_checked_width : mg "checked_width" = some (.ref a_checked_width)
  F_unit : Fun K "unit" "unit" s_unit a_unit d_unit
  b_unit : Binds K d_unit ["n"] []
  g_unit : mg "unit" = some (.ref a_unit)
  F_diagonal : Fun K "diagonal" "diagonal" s_diagonal a_diagonal d_diagonal
  b_diagonal : Binds K d_diagonal ["numbers"] []
  g_diagonal : mg "diagonal" = some (.ref a_diagonal)
  F_sublattices : Fun K "sublattices" "sublattices" s_sublattices a_sublattices d_sublattices
  b_sublattices : Binds K d_sublattices ["n", "index"] []
  g_sublattices : mg "sublattices" = some (.ref a_sublattices)
  F_check_number : Fun K "check_number" "check_number" s_check_number a_check_number d_check_number
  b_check_number : Binds K d_check_number ["value", "most"] []
  g_check_number : mg "check_number" = some (.ref a_check_number)
  F_pivot_tuples : Fun K "pivot_tuples" "pivot_tuples" s_pivot_tuples a_pivot_tuples d_pivot_tuples
  b_pivot_tuples : Binds K d_pivot_tuples ["n", "index"] []
  g_pivot_tuples : mg "pivot_tuples" = some (.ref a_pivot_tuples)
  F_forms_with : Fun K "forms_with" "forms_with" s_forms_with a_forms_with d_forms_with
  b_forms_with : Binds K d_forms_with ["pivots"] []
  g_forms_with : mg "forms_with" = some (.ref a_forms_with)
  F_law_state : Fun K "_law_state" "_law_state" s_law_state a_law_state d_law_state
  b_law_state : Binds K d_law_state ["script"] []
  g_law_state : mg "_law_state" = some (.ref a_law_state)
  F_law_take : Fun K "_law_take" "_law_take" s_law_take a_law_take d_law_take
  b_law_take : Binds K d_law_take ["state", "m"] []
  g_law_take : mg "_law_take" = some (.ref a_law_take)
  F_law_product : Fun K "_law_product" "_law_product" s_law_product a_law_product d_law_product
  b_law_product : Binds K d_law_product ["a", "b", "width"] []
  g_law_product : mg "_law_product" = some (.ref a_law_product)
  F_law_unit : Fun K "_law_unit" "_law_unit" s_law_unit a_law_unit d_law_unit
  b_law_unit : Binds K d_law_unit ["n"] []
  g_law_unit : mg "_law_unit" = some (.ref a_law_unit)
  F_law_step : Fun K "_law_step" "_law_step" s_law_step a_law_step d_law_step
  b_law_step : Binds K d_law_step ["rows", "i", "k", "factor"] []
  g_law_step : mg "_law_step" = some (.ref a_law_step)
  F_law_unimodular : Fun K "_law_unimodular" "_law_unimodular" s_law_unimodular a_law_unimodular d_law_unimodular
  b_law_unimodular : Binds K d_law_unimodular ["state", "n"] []
  g_law_unimodular : mg "_law_unimodular" = some (.ref a_law_unimodular)
  F_law_longer : Fun K "_law_longer" "_law_longer" s_law_longer a_law_longer d_law_longer
  b_law_longer : Binds K d_law_longer ["rows", "pivot"] []
  g_law_longer : mg "_law_longer" = some (.ref a_law_longer)
  F_law_tables : Fun K "_law_tables" "_law_tables" s_law_tables a_law_tables d_law_tables
  b_law_tables : Binds K d_law_tables ["n", "index", "at"] []
  g_law_tables : mg "_law_tables" = some (.ref a_law_tables)
  F_law_refused : Fun K "_law_refused" "_law_refused" s_law_refused a_law_refused d_law_refused
  b_law_refused : Binds K d_law_refused ["n", "index"] []
  g_law_refused : mg "_law_refused" = some (.ref a_law_refused)
  F_law : Fun K "law" "law" s_law a_law d_law
  b_law : Binds K d_law ["script"] []
  g_law : mg "law" = some (.ref a_law)
  g_Grid : mg "Grid" = some (.ref C_Grid)
  cl_Grid : Cls K C_Grid
  mk_Grid : Mk K C_Grid a_Grid_init
  n_rows : NoAttr K C_Grid "rows"
  n_width : NoAttr K C_Grid "width"
  sf_Grid : PySem.W.selfFirst K C_Grid = true
  kc_Grid : PySem.W.findIn K (.ref C_Grid) "__class__" = some (some (.builtin "object.__class__"))
  kg_Grid : PySem.W.specialIn K (.builtin "object.__class__") "__get__" = some (some (.builtin "getset_descriptor.__get__"))
  kt_Grid : PySem.W.takesIn K (.builtin "object.__class__") = some true
  km_Grid : PySem.W.mroIn K C_Grid (.type "object") = some true
  ty_Grid : PySem.W.typeIn K (.ref C_Grid) = some (.type "type")
  ic_Grid : PySem.W.isClsIn K C_Grid = true
  ne_Grid : PySem.W.findIn K (.ref C_Grid) "__ne__" = some (some (.builtin "object.__ne__"))
  z_ValueError : mg "ValueError" = none
  z_abs : mg "abs" = none
  z_all : mg "all" = none
  z_bool : mg "bool" = none
  z_dict : mg "dict" = none
  z_int : mg "int" = none
  z_isinstance : mg "isinstance" = none
  z_len : mg "len" = none
  z_list : mg "list" = none
  z_range : mg "range" = none
  z_sorted : mg "sorted" = none
  z_tuple : mg "tuple" = none
  z_zip : mg "zip" = none
  g_MOST_INDEX : mg "MOST_INDEX" = some (.int 60 k_MOST_INDEX)
  g_MOST_SIZE : mg "MOST_SIZE" = some (.int 4 k_MOST_SIZE)
  oX_Refused : OexC K X_Refused
  nI_Refused : PySem.W.findIn K (.ref X_Refused) "__init__" = some (some (.ref a_Refused_init))
  jI_Refused : PySem.W.typeIn K (.ref a_Refused_init) = some (.type "function")
  nf_Refused : PySem.W.findIn K (.ref X_Refused) "reason" = some none
  fX_Refused : XfC K X_Refused
  cX_Refused : (PySem.W.clsIn K X_Refused).isSome = true
  mX_Refused : PySem.W.mroIn K X_Refused (.type "object") = some true
  hX_Refused : PySem.W.findIn K (.ref X_Refused) "__class__" = some (some (.builtin "object.__class__"))
  sub_Refused_Malformed : PySem.W.subIn K (.ref X_Refused) (.ref X_Malformed) = some false
  sub_Malformed_Refused : PySem.W.subIn K (.ref X_Malformed) (.ref X_Refused) = some false
  gX_Malformed : mg "Malformed" = some (.ref X_Malformed)
  xX_Malformed : PySem.W.excIn K X_Malformed [.type "ValueError", .type "Exception", .type "BaseException", .type "object"] "ValueError.__new__" = true
  kX_Malformed : PySem.W.keepIn K (.ref X_Malformed) = true
  bX_Malformed : PySem.W.subIn K (.ref X_Malformed) (.type "BaseException") = some true
  tX_Malformed : PySem.W.typeIn K (.ref X_Malformed) = some (.type "type")
  iX_Malformed : PySem.W.isClsIn K X_Malformed = true
  sX_Malformed : PySem.W.subIn K (.ref X_Malformed) (.ref X_Malformed) = some true
  gX_Refused : mg "Refused" = some (.ref X_Refused)
  kX_Refused : PySem.W.keepIn K (.ref X_Refused) = true
  bX_Refused : PySem.W.subIn K (.ref X_Refused) (.type "BaseException") = some true
  tX_Refused : PySem.W.typeIn K (.ref X_Refused) = some (.type "type")
  iX_Refused : PySem.W.isClsIn K X_Refused = true
  sX_Refused : PySem.W.subIn K (.ref X_Refused) (.ref X_Refused) = some true
end K44
namespace K44
open PySem PySem.Spec PyProof.Rows L2 Gm
open C8 (Cal Met Mak pe_c pe_mt pe_mt0 pe_mk)
section
variable {P : Program} {w : World} {K : PySem.W.Frag} {mg : Str → Option Value} {base : Heap}
/-! ### is_integer -/
def sp_is_integer : Sp := fun vs H Q _ => ∃ i, vs = [V.int i] ∧ Q (.bl true) H
theorem ok_is_integer (T : Top K mg) : FnOk P w K mg base CX0 1 T.a_is_integer T.d_is_integer ["value"] sp_is_integer := by
  refine T.F_is_integer.ok sc_is_integer (fun vs H Q E h => ?_) (fun cdv A outer s H vs Q E hr h => ?_)
  · obtain ⟨i, rfl, _⟩ := h
    rfl
  · obtain ⟨i, rfl, q⟩ := h
    refine ⟨_, (pss_one (ps_ret (pe_and (pe_callB (isiK K rfl) (by rfl) T.z_isinstance (by decide +kernel) (pa_cons (pv 0) (pa_cons (pe_bltn (v := .ty "int") (by rfl) T.z_int (by decide +kernel) rfl) pa_nil))) (pe_one (pe_not (pe_callB (isiK K rfl) (by rfl) T.z_isinstance (by decide +kernel) (pa_cons (pv 0) (pa_cons (pe_bltn (v := .ty "bool") (by rfl) T.z_bool (by decide +kernel) rfl) pa_nil)))))))), ?_⟩
    refine ⟨_, rfl, .int i, .ty "int", _, _, true, rfl, .ty "int", .base (.int i), kit_ty (by decide +kernel), true, rfl, iteT ?_⟩
    exact ⟨_, rfl, .int i, .ty "bool", _, _, false, rfl, .ty "bool", .base (.int i), kit_ty (by decide +kernel), false, rfl, q⟩
theorem cal_is_integer (T : Top K mg) (hN : base.NoSeer) (hT : P.given.tree = none) : Cal P w K mg base 1 "is_integer" sp_is_integer [] := ⟨⟨_, _, _, [], ok_is_integer T, T.g_is_integer, T.F_is_integer.kp, T.b_is_integer, .nil⟩⟩
/-! ### first_with_head -/
/-- the first place from k on whose row does not begin with 0 -/
def firstHead : List (List Int) → Nat → Option Nat
  | [], _ => none
  | r :: rs, k => if r.headD 0 ≠ 0 then some k else firstHead rs (k + 1)
theorem firstHead_step : ∀ (m : List (List Int)) (i j : Nat) (r : List Int), m[i]? = some r → (∀ k, k < i → ∀ r', m[k]? = some r' → r'.headD 0 = 0) → firstHead m j = if r.headD 0 ≠ 0 then some (j + i) else firstHead (m.drop (i + 1)) (j + i + 1)
  | [], i, j, r, h, _ => by simp at h
  | a :: m, 0, j, r, h, _ => by
    have e : a = r := by simpa using h
    subst e
    rfl
  | a :: m, i + 1, j, r, h, z => by
    have h0 : a.headD 0 = 0 := z 0 (Nat.succ_pos _) a rfl
    show (if a.headD 0 ≠ 0 then some j else firstHead m (j + 1)) = _
    rw [if_neg (by rw [h0]; simp), firstHead_step m i (j + 1) r (by simpa using h) fun k hk r' e => z (k + 1) (by omega) r' (by simpa using e)]
    rw [show j + 1 + i = j + (i + 1) by omega]
    rfl
theorem firstHead_none {m : List (List Int)} : ∀ {j : Nat}, (∀ r ∈ m, r.headD 0 = 0) → firstHead m j = none := by
  induction m with
  | nil => intro _ _; rfl
  | cons a m ih =>
    intro j h
    show (if a.headD 0 ≠ 0 then some j else firstHead m (j + 1)) = none
    rw [if_neg (by rw [h a (List.mem_cons_self ..)]; simp), ih fun r hr => h r (List.mem_cons_of_mem _ hr)]
def optV : Option Nat → V
  | none => .non
  | some k => .int k
def sp_first_with_head (K : PySem.W.Frag) : Sp := fun vs H Q _ => ∃ v m, vs = [v] ∧ IRows K H v m ∧ m.length ≤ 1000 ∧ (∀ r ∈ m, r ≠ []) ∧ ∀ H', Same H H' → Q (optV (firstHead m 0)) H'

end
end K44
namespace K44
open PySem PySem.Spec PyProof.Rows L2 Gm
open C8 (Cal Met Mak pe_c pe_mt pe_mt0 pe_mk)
section
variable {P : Program} {w : World} {K : PySem.W.Frag} {mg : Str → Option Value} {base : Heap}
/-! ### cleared -/
/-- the items of the row behind its first, once that is made 0 by the top row -/
def clr (ts rs : List Int) (l : Int) : List Int := List.zipWith (fun a b => (ts.headD 0 * b - rs.headD 0 * a).fdiv l) ts.tail rs.tail
theorem clr_len {ts rs : List Int} {l : Int} (h : ts.length = rs.length) : (clr ts rs l).length = ts.length - 1 := by
  unfold clr
  rw [List.length_zipWith, List.length_tail, List.length_tail, h, Nat.min_self]
theorem clr_get {ts rs : List Int} {l : Int} {k : Nat} {a b : Int} (h1 : ts[k + 1]? = some a) (h2 : rs[k + 1]? = some b) : (clr ts rs l)[k]? = some ((ts.headD 0 * b - rs.headD 0 * a).fdiv l) := by
  unfold clr
  rw [List.getElem?_zipWith]
  have e1 : ts.tail[k]? = some a := by rw [List.getElem?_tail]; exact h1
  have e2 : rs.tail[k]? = some b := by rw [List.getElem?_tail]; exact h2
  rw [e1, e2]
/-- all items have fewer than B bits -/
def Bits (B : Nat) (ns : List Int) : Prop := ∀ x ∈ ns, x.natAbs < 2 ^ B
theorem Bits.at {B : Nat} {ns : List Int} {k : Nat} {x : Int} (h : Bits B ns) (e : ns[k]? = some x) : x.natAbs < 2 ^ B := h x (List.mem_of_getElem? e)
def sp_cleared (K : PySem.W.Frag) : Sp := fun vs H Q _ => ∃ v1 v2 ts rs l B, vs = [v1, v2, V.int l] ∧ IRow K H v1 ts ∧ IRow K H v2 rs ∧ ts.length = rs.length ∧ 0 < ts.length ∧ ts.length ≤ 1000 ∧ l ≠ 0 ∧ Bits B ts ∧ Bits B rs ∧ B ≤ 60000000 ∧
  ∀ H' p, Same H H' → H p = none → H' p = some (.lst ((clr ts rs l).map V.int)) → Q (.ref p) H'

end
end K44
namespace K44
open PySem PySem.Spec PyProof.Rows L2 Gm
open C8 (Cal Met Mak pe_c pe_mt pe_mt0 pe_mk)
section
variable {P : Program} {w : World} {K : PySem.W.Frag} {mg : Str → Option Value} {base : Heap}
/-! ### determinant_of -/
/-- the elimination without fractions, by the number of rows -/
def bare : Nat → Int → Int → List (List Int) → Int
  | 0, s, l, _ => s * l
  | n + 1, s, l, m => match firstHead m 0 with
    | none => 0
    | some k => bare n (if k % 2 = 1 then -s else s) ((m.getD k []).headD 0) ((m.eraseIdx k).map fun r => clr (m.getD k []) r l)
theorem firstHead_some : ∀ {m : List (List Int)} {j k : Nat}, firstHead m j = some k → j ≤ k ∧ k < j + m.length ∧ (m.getD (k - j) []).headD 0 ≠ 0
  | [], _, _, h => by cases h
  | a :: m, j, k, h => by
    by_cases ha : a.headD 0 ≠ 0
    · have e : firstHead (a :: m) j = some j := if_pos ha
      rw [e] at h
      cases h
      refine ⟨Nat.le_refl _, by simp, ?_⟩
      rw [Nat.sub_self]
      exact ha
    · have e : firstHead (a :: m) j = firstHead m (j + 1) := if_neg ha
      rw [e] at h
      obtain ⟨h1, h2, h3⟩ := firstHead_some h
      refine ⟨by omega, by rw [List.length_cons]; omega, ?_⟩
      rw [show k - j = (k - (j + 1)) + 1 by omega]
      exact h3
theorem fdiv_le (x l : Int) : (x.fdiv l).natAbs ≤ x.natAbs := by
  cases x with
  | ofNat m =>
    cases l with
    | ofNat n =>
      show (Int.fdiv (m : Int) (n : Int)).natAbs ≤ m
      rw [Int.fdiv_eq_ediv_of_nonneg _ (by omega)]
      show m / n ≤ m
      exact Nat.div_le_self _ _
    | negSucc n =>
      cases m with
      | zero => exact Nat.le_refl _
      | succ m =>
        show (m / (n + 1)) + 1 ≤ m + 1
        have := Nat.div_le_self m (n + 1)
        omega
  | negSucc m =>
    cases l with
    | ofNat n =>
      cases n with
      | zero => exact Nat.zero_le _
      | succ n =>
        show (m / (n + 1)) + 1 ≤ m + 1
        have := Nat.div_le_self m (n + 1)
        omega
    | negSucc n =>
      show (m + 1) / (n + 1) ≤ m + 1
      exact Nat.div_le_self _ _
theorem clr_bits {ts rs : List Int} {l : Int} {B : Nat} (bt : Bits B ts) (br : Bits B rs) : Bits (2 * B + 1) (clr ts rs l) := by
  intro x hx
  obtain ⟨k, hk⟩ := List.getElem?_of_mem hx
  unfold clr at hk
  rw [List.getElem?_zipWith] at hk
  cases e1 : ts.tail[k]? with
  | none => rw [e1] at hk; cases hk
  | some a =>
    cases e2 : rs.tail[k]? with
    | none => rw [e1, e2] at hk; cases hk
    | some b =>
      rw [e1, e2] at hk
      have ex : (ts.headD 0 * b - rs.headD 0 * a).fdiv l = x := Option.some.inj hk
      rw [← ex]
      refine Nat.lt_of_le_of_lt (fdiv_le _ _) ?_
      have ha : a.natAbs < 2 ^ B := bt a (List.mem_of_mem_tail (List.mem_of_getElem? e1))
      have hb : b.natAbs < 2 ^ B := br b (List.mem_of_mem_tail (List.mem_of_getElem? e2))
      have h1 : (ts.headD 0).natAbs < 2 ^ B := by
        cases ts with
        | nil => cases e1
        | cons t ts => exact bt t (List.mem_cons_self ..)
      have h2 : (rs.headD 0).natAbs < 2 ^ B := by
        cases rs with
        | nil => cases e2
        | cons t ts => exact br t (List.mem_cons_self ..)
      have p1 := wide_lt h1 hb
      have p2 := wide_lt h2 ha
      have e3 : 2 ^ (2 * B + 1) = 2 ^ (B + B) + 2 ^ (B + B) := by rw [show 2 * B + 1 = (B + B) + 1 by omega, Nat.pow_succ]; omega
      rw [e3]
      omega
/-- a square matrix of size n whose items have fewer than B bits -/
structure Sq (n B : Nat) (m : List (List Int)) : Prop where
  len : m.length = n
  row : ∀ r ∈ m, r.length = n
  bits : ∀ r ∈ m, Bits B r
theorem Sq.next {n B : Nat} {m : List (List Int)} (h : Sq (n + 1) B m) {k : Nat} (hk : k < n + 1) (l : Int) : Sq n (2 * B + 1) ((m.eraseIdx k).map fun r => clr (m.getD k []) r l) := by
  have hk' : k < m.length := by rw [h.len]; exact hk
  have eg : m.getD k [] = m[k] := by rw [List.getD_eq_getElem?_getD, List.getElem?_eq_getElem hk']; rfl
  have hm : m.getD k [] ∈ m := by rw [eg]; exact List.getElem_mem _
  refine ⟨?_, fun r hr => ?_, fun r hr => ?_⟩
  · rw [List.length_map, List.length_eraseIdx_of_lt hk', h.len]
    rfl
  · obtain ⟨r', hr', rfl⟩ := List.mem_map.mp hr
    have h1 := h.row r' (List.mem_of_mem_eraseIdx hr')
    have h2 := h.row _ hm
    rw [clr_len (by omega)]
    omega
  · obtain ⟨r', hr', rfl⟩ := List.mem_map.mp hr
    exact clr_bits (h.bits _ hm) (h.bits _ (List.mem_of_mem_eraseIdx hr'))
/-- the places that are kept -/
theorem filter_ne_range (n k : Nat) : (List.range n).filter (fun i => decide (i ≠ k)) = (List.range n).eraseIdx k := by
  induction n with
  | zero => simp
  | succ n ih =>
    rw [List.range_succ, List.filter_append, ih, List.filter_cons, List.filter_nil]
    by_cases h : n = k
    · subst h
      rw [if_neg (by simp), List.append_nil, List.eraseIdx_append_of_length_le (by simp), List.length_range, Nat.sub_self]
      simp [List.eraseIdx_of_length_le]
    · rw [if_pos (by simpa using h)]
      by_cases h2 : k < n
      · rw [List.eraseIdx_append_of_lt_length (by simpa using h2)]
      · rw [List.eraseIdx_of_length_le (by simp; omega), List.eraseIdx_of_length_le (by simp; omega)]
theorem map_range_get (m : List (List Int)) : (List.range m.length).map (fun i => m.getD i []) = m := by
  apply List.ext_getElem?
  intro i
  rw [List.getElem?_map]
  by_cases h : i < m.length
  · rw [List.getElem?_range h, List.getElem?_eq_getElem h]
    show some (m.getD i []) = _
    rw [List.getD_eq_getElem?_getD, List.getElem?_eq_getElem h]
    rfl
  · rw [List.getElem?_eq_none (by simpa using h), List.getElem?_eq_none (by omega)]
    rfl
theorem eraseIdx_map' {α β : Type} (f : α → β) : ∀ (l : List α) (k : Nat), (l.map f).eraseIdx k = (l.eraseIdx k).map f
  | [], _ => rfl
  | _ :: _, 0 => rfl
  | a :: l, k + 1 => congrArg (f a :: ·) (eraseIdx_map' f l k)
theorem erase_map_range {β : Type} (m : List (List Int)) (k : Nat) (f : List Int → β) : (m.eraseIdx k).map f = ((List.range m.length).eraseIdx k).map fun i => f (m.getD i []) := by
  have h : m.eraseIdx k = ((List.range m.length).eraseIdx k).map fun i => m.getD i [] := by
    rw [← eraseIdx_map', map_range_get]
  rw [h, List.map_map]
  rfl
theorem paired_map {α β γ : Type} {F : α → γ → Prop} {f : β → γ} : ∀ {l : List α} {is : List β}, Paired (fun i v => F v (f i)) is l → Paired F l (is.map f)
  | _, _, .nil => .nil
  | _, _, .cons r t => .cons r (paired_map t)
def sp_determinant_of (K : PySem.W.Frag) : Sp := fun vs H Q _ => ∃ v m n B, vs = [v] ∧ IRows K H v m ∧ Sq n B m ∧ n ≤ 5 ∧ B ≤ 1200000 ∧ ∀ H', Same H H' → Q (.int (bare n 1 1 m)) H'

end
end K44
namespace K44
open PySem PySem.Spec PyProof.Rows L2 Gm
open C8 (Cal Met Mak pe_c pe_mt pe_mt0 pe_mk)
section
variable {P : Program} {w : World} {K : PySem.W.Frag} {mg : Str → Option Value} {base : Heap}
/-! ### grids -/
theorem rw_ne : ¬ (("rows" : Str) = "width") := by decide +kernel
def flds (t : V) (w : Nat) : List (Str × V) := putF "width" (.int w) (putF "rows" t [])
theorem flds_rows (t : V) (w : Nat) : (flds t w).lookup ("rows" : Str) = some t := by
  unfold flds
  rw [lookup_putF, if_neg rw_ne, lookup_putF, if_pos rfl]
theorem flds_width (t : V) (w : Nat) : (flds t w).lookup ("width" : Str) = some (.int w) := by
  unfold flds
  rw [lookup_putF, if_pos rfl]
theorem flds_no (t : V) (w : Nat) {m : Str} (h1 : ¬ m = "width") (h2 : ¬ m = "rows") : (flds t w).lookup m = none := by
  unfold flds
  rw [lookup_putF, if_neg h1, lookup_putF, if_neg h2]
  all_goals rfl
/-- a Grid with the rows m, of width w -/
structure IsGrid (K : PySem.W.Frag) (C : Addr) (H : Hp) (v : V) (m : List (List Int)) (w : Nat) : Prop where
  ob : ∃ p dx t, v = .ref p ∧ H p = some (.ins C dx (flds t w)) ∧ TRows K H t m
  wd : ∀ r ∈ m, r.length = w
theorem IsGrid.same {K : PySem.W.Frag} {C : Addr} {H H' : Hp} {v : V} {m : List (List Int)} {w : Nat} (e : Same H H') (h : IsGrid K C H v m w) : IsGrid K C H' v m w :=
  let ⟨p, dx, t, ev, ho, ht⟩ := h.ob
  ⟨⟨p, dx, t, ev, e _ _ ho, ht.same e⟩, h.wd⟩
/-! ### checked_rows -/
theorem seq_ty {K : PySem.W.Frag} {H : Hp} {a : Addr} {xs : List V} (h : Gm.Seq K H a xs) : ∃ n, (n = "list" ∨ n = "tuple") ∧ TyX K H (.ref a) (.type n) := by
  rcases h with h | h
  · refine ⟨"list", .inl rfl, ?_⟩
    rcases h with (h | ⟨o, h⟩) | ⟨o, its, n, h, c, _⟩
    · exact .base (.lst h)
    · exact .base (.frz h)
    · exact .kList h c
  · refine ⟨"tuple", .inr rfl, ?_⟩
    rcases h with (h | ⟨o, h⟩) | ⟨o, its, n, h, c, _⟩
    · exact .base (.tup h)
    · exact .fTuple h
    · exact .kTuple h c
theorem kit_lt {K : PySem.W.Frag} {n : String} (h : n = "list" ∨ n = "tuple") : PySem.W.kitAny K (.type n) [.type "list", .type "tuple"] = some true := by
  rcases h with rfl | rfl
  · exact kitAny_cons (b := true) (kit_ty (by decide +kernel)) (fun e => by cases e) fun _ => rfl
  · exact kitAny_cons (b := false) (kit_ty (by decide +kernel)) (fun _ => kitAny_cons (b := true) (kit_ty (by decide +kernel)) (fun e => by cases e) fun _ => rfl) fun e => by cases e
def sp_checked_rows (K : PySem.W.Frag) : Sp := fun vs H Q _ => ∃ v m, vs = [v] ∧ IRows K H v m ∧ m.length ≤ 1000 ∧ (∀ r ∈ m, r.length ≤ 1000) ∧ ∀ v' H', Same H H' → TRows K H' v' m → Q v' H'
theorem ok_checked_rows (T : Top K mg) (hN : base.NoSeer) (hT : P.given.tree = none) : FnOk P w K mg base CX0 2 T.a_checked_rows T.d_checked_rows ["rows"] (sp_checked_rows K) := by
  refine T.F_checked_rows.ok sc_checked_rows (fun vs H Q E h => ?_) (fun cdv A outer s H vs Q E hr h => ?_)
  · obtain ⟨v, m, rfl, _⟩ := h
    rfl
  · obtain ⟨v, m, rfl, hm, hl, hw, q⟩ := h
    obtain ⟨a, ws, rfl, hs, hp⟩ := id hm
    have lw := Paired.length hp
    refine ⟨_, (pss_cons (ps_if (pt_not (pt_val (pe_callB (isiTK K rfl) (by rfl) T.z_isinstance (by decide +kernel) (pa_cons (pv 0) (pa_cons (pe_tup (pa_cons (pe_bltn (v := .ty "list") (by rfl) T.z_list (by decide +kernel) rfl) (pa_cons (pe_bltn (v := .ty "tuple") (by rfl) T.z_tuple (by decide +kernel) rfl) pa_nil))) pa_nil)))))
      (pss_one ps_never)
      pss_nil)
      (pss_cons (ps_for PassesOwn.never rfl (piS K rfl (pv 0)) (pg_name (i := 1) sc_checked_rows.nd rfl (by first | exact .inl rfl | exact .inr rfl))
      (pss_cons (ps_if (pt_not (pt_val (pe_callB (isiTK K rfl) (by rfl) T.z_isinstance (by decide +kernel) (pa_cons (pv 1) (pa_cons (pe_tup (pa_cons (pe_bltn (v := .ty "list") (by rfl) T.z_list (by decide +kernel) rfl) (pa_cons (pe_bltn (v := .ty "tuple") (by rfl) T.z_tuple (by decide +kernel) rfl) pa_nil))) pa_nil)))))
      (pss_one ps_never)
      pss_nil)
      (pss_one (ps_if (pt_not (pt_val (pe_callB (allK K rfl rfl) (by rfl) T.z_all (by decide +kernel) (pa_cons (pe_lc (own := [("item", 2)]) (g := (gName 2)) (by rfl) sc_checked_rows.nd (piS K rfl (pv 1)) ((by show BlkOk ["rows", "row", "item"] (defScope s_checked_rows) _ _; exact blkOk_by (by decide +kernel))) (fun _ _ _ _ _ => (pg_name (i := 2) sc_checked_rows.nd rfl (by first | exact .inl rfl | exact .inr rfl))) (fun _ _ _ _ _ => pts_nil) (fun _ _ _ _ _ => (pe_c (cal_is_integer T hN hT) hr (by decide) (by rfl) (pa_cons (pv 2) pa_nil)))) pa_nil))))
      (pss_one ps_never)
      pss_nil))))
      (pss_one (ps_ret (pe_callTy (tupK K rfl) (by rfl) T.z_tuple (by decide +kernel) (pa_cons (pe_lc (own := [("row", 1)]) (g := (gName 1)) (by rfl) sc_checked_rows.nd (piS K rfl (pv 0)) ((by show BlkOk ["rows", "row", "item"] (defScope s_checked_rows) _ _; exact blkOk_by (by decide +kernel))) (fun _ _ _ _ _ => (pg_name (i := 1) sc_checked_rows.nd rfl (by first | exact .inl rfl | exact .inr rfl))) (fun _ _ _ _ _ => pts_nil) (fun _ _ _ _ _ => (pe_callTy (tupK K rfl) (by rfl) T.z_tuple (by decide +kernel) (pa_cons (pv 1) pa_nil)))) pa_nil)))))), ?_⟩
    -- if not isinstance(rows, (list, tuple))
    refine ⟨_, rfl, by show 2 ≤ sizeLine; decide, fun p np => ?_⟩
    have s1 : Same H (upd H p (.tup [.ty "list", .ty "tuple"])) := same_upd np
    obtain ⟨n, hn, ty⟩ := seq_ty (hs.same s1)
    refine ⟨.ref a, p, [.ty "list", .ty "tuple"], _, [.type "list", .type "tuple"], true, rfl, upd_same, .cons (.ty _) (.cons (.ty _) .nil), ty, kit_lt hn, true, rfl, ?_⟩
    refine iteF ?_
    -- for row in rows
    refine ⟨_, rfl, a, ws, rfl, hs.same s1, fun J G W hG => ?_⟩
    generalize hH1 : upd H p (.tup [.ty "list", .ty "tuple"]) = H1 at s1 hG
    refine for_it W (fun i σ H2 => ∃ y1 y2, σ = [some (.ref a), y1, y2] ∧ Same H1 H2) ⟨none, none, rfl, Same.refl _⟩ (fun i σ H2 _ ⟨_, _, _, s2⟩ => hG _ fun b _ o => s2 b o) ?_ ?_
    · rintro i x σ H2 H2' hi ⟨y1, y2, rfl, s2⟩ ⟨rfl, ex⟩
      obtain ⟨r, er, b, rfl, hb⟩ := Paired.getR hp ex
      have hrm : r ∈ m := List.mem_of_getElem? er
      -- if not isinstance(row, (list, tuple))
      refine ⟨_, rfl, by show 2 ≤ sizeLine; decide, fun p2 np2 => ?_⟩
      have s3 : Same H2' (upd H2' p2 (.tup [.ty "list", .ty "tuple"])) := same_upd np2
      have hb3 := hb.same (s1.trans (s2.trans s3))
      obtain ⟨n2, hn2, ty2⟩ := seq_ty hb3
      refine ⟨.ref b, p2, [.ty "list", .ty "tuple"], _, [.type "list", .type "tuple"], true, rfl, upd_same, .cons (.ty _) (.cons (.ty _) .nil), ty2, kit_lt hn2, true, rfl, ?_⟩
      refine iteF ?_
      -- if not all([is_integer(item) for item in row])
      refine ⟨_, rfl, b, _, rfl, hb3, fun J2 G2 W2 hG2 D hD => ?_⟩
      refine lc_all W2 hD (by rw [List.length_map]; exact hw _ hrm) (fun H4 s4 => hG2 H4 fun b _ o => s4 b o) (fun _ v _ => v = .bl true) (fun _ _ _ _ _ _ _ h => h) ?_ gm_name ?_
      · rintro j y H4 H4' acc Ko hj s4 eD ⟨rfl, ey⟩ k
        obtain ⟨z, ez, rfl⟩ := ints_get ey
        refine ⟨rfl, ?_⟩
        exact ⟨_, rfl, z, rfl, k _ _ (Same.refl _) rfl⟩
      · intro H4 l s4 eD hl2
        refine ⟨D, List.replicate l.length true, rfl, .inl (.inl (by rw [← paired_true hl2]; exact eD)), true, by rw [all_true], ?_⟩
        refine iteF ?_
        exact ⟨_, _, rfl, s2.trans (s3.trans s4)⟩
    · rintro σ H2 ⟨y1, y2, rfl, s2⟩
      have sm := s1.trans s2
      -- return tuple([tuple(row) for row in rows])
      refine ⟨_, rfl, a, ws, rfl, hs.same sm, fun J2 G2 W2 hG2 D hD => ?_⟩
      refine lc_all W2 hD (by omega) (fun H4 s4 => hG2 H4 fun b _ o => s4 b o) (fun i v H4 => ∃ r, m[i]? = some r ∧ TRow K H4 v r) (fun i v H4 H5 acc e o ⟨r, er, h⟩ => ⟨r, er, TRow.off e o h⟩) ?_ gm_name ?_
      · rintro i x H4 H4' acc Ko hi s4 eD ⟨rfl, ex⟩ k
        obtain ⟨r, er, b, rfl, hb⟩ := Paired.getR hp ex
        refine ⟨rfl, ?_⟩
        refine ⟨_, rfl, b, r.map V.int, rfl, ?_⟩
        rcases hb.same (sm.trans s4) with hb' | hb'
        · refine .inl ⟨hb', fun t nt => ?_⟩
          exact k _ _ (same_upd nt) ⟨r, er, t, rfl, .inl (.inl upd_same)⟩
        · refine .inr ⟨hb', ?_⟩
          exact k _ _ (Same.refl _) ⟨r, er, b, rfl, hb'⟩
      · intro H4 l s4 eD hpl
        refine ⟨D, l, rfl, .inl ⟨.inl (.inl eD), fun t nt => ?_⟩⟩
        refine q _ _ (sm.trans (s4.trans (same_upd nt))) ⟨t, l, rfl, .inl (.inl upd_same), ?_⟩
        exact L2.Paired.mapP (paired_at (m := m) (by omega) hpl) fun _ _ => TRow.same (same_upd nt)
theorem cal_checked_rows (T : Top K mg) (hN : base.NoSeer) (hT : P.given.tree = none) : Cal P w K mg base 2 "checked_rows" (sp_checked_rows K) [] := ⟨⟨_, _, _, [], ok_checked_rows T hN hT, T.g_checked_rows, T.F_checked_rows.kp, T.b_checked_rows, .nil⟩⟩
/-! ### checked_width -/
def sp_checked_width (K : PySem.W.Frag) : Sp := fun vs H Q _ => ∃ (v : V) (m : List (List Int)) (w : Nat), vs = [v, .int w] ∧ TRows K H v m ∧ m.length ≤ 1000 ∧ (∀ r ∈ m, r.length = w) ∧ ∀ H', Same H H' → Q (.int w) H'
theorem ok_checked_width (T : Top K mg) (hN : base.NoSeer) (hT : P.given.tree = none) : FnOk P w K mg base CX0 2 T.a_checked_width T.d_checked_width ["rows", "width"] (sp_checked_width K) := by
  refine T.F_checked_width.ok sc_checked_width (fun vs H Q E h => ?_) (fun cdv A outer s H vs Q E hr h => ?_)
  · obtain ⟨v, m, w, rfl, _⟩ := h
    rfl
  · obtain ⟨v, m, w, rfl, hm, hl, hw, q⟩ := h
    obtain ⟨a, ws, rfl, hs, hp⟩ := id hm
    have lw := Paired.length hp
    refine ⟨_, (pss_cons (ps_if (pt_cmpR op_isN (pv 1) pe_non (nomark _))
      (pss_one (ps_set (i := 1) sc_checked_width.nd rfl (by first | exact .inl rfl | exact .inr rfl) (pe_ifExp (pt_cmpR op_gt (pe_callB (lenS K rfl) (by rfl) T.z_len (by decide +kernel) (pa_cons (pv 0) pa_nil)) pe_int (nomark _)) (pe_callB (lenS K rfl) (by rfl) T.z_len (by decide +kernel) (pa_cons (pe_ix (ixT K rfl) (pv 0) pe_int (fun _ _ => rfl)) pa_nil)) pe_int)))
      pss_nil)
      (pss_cons (ps_if (PW.pt (pw_or (pt_not (pt_val (pe_c (cal_is_integer T hN hT) hr (by decide) (by rfl) (pa_cons (pv 1) pa_nil)))) (pw_or1 (pt_cmpR op_lt (pv 1) pe_int (nomark _)))))
      (pss_one ps_never)
      pss_nil)
      (pss_cons (ps_if (pt_not (pt_val (pe_callB (allK K rfl rfl) (by rfl) T.z_all (by decide +kernel) (pa_cons (pe_lc (own := [("row", 2)]) (g := (gName 2)) (by rfl) sc_checked_width.nd (piS K rfl (pv 0)) ((by show BlkOk ["rows", "width", "row"] (defScope s_checked_width) _ _; exact blkOk_by (by decide +kernel))) (fun _ _ _ _ _ => (pg_name (i := 2) sc_checked_width.nd rfl (by first | exact .inl rfl | exact .inr rfl))) (fun _ _ _ _ _ => pts_nil) (fun _ _ _ _ _ => (pe_cmpR op_eq (pe_callB (lenS K rfl) (by rfl) T.z_len (by decide +kernel) (pa_cons (pv 2) pa_nil)) (pv 1) (nomark _)))) pa_nil))))
      (pss_one ps_never)
      pss_nil)
      (pss_one (ps_ret (pv 1)))))), ?_⟩
    -- if width is None
    refine ⟨_, rfl, rfl, _, rfl, ?_⟩
    rw [show decide (V.int (w : Int) = V.non) = false from decide_eq_false fun z => by cases z]
    refine iteF ?_
    -- if not is_integer(width) or width < 0
    refine ⟨_, rfl, _, rfl, true, rfl, iteF ⟨_, rfl, _, _, rfl, rfl, _, rfl, ?_⟩⟩
    rw [decide_eq_false (by omega)]
    refine iteF ?_
    -- if not all([len(row) == width for row in rows])
    refine ⟨_, rfl, a, ws, rfl, .inr hs, fun J2 G2 W2 hG2 D hD => ?_⟩
    refine lc_all W2 hD (by omega) (fun H4 s4 => hG2 H4 fun b _ o => s4 b o) (fun _ v _ => v = .bl true) (fun _ _ _ _ _ _ _ h => h) ?_ gm_name ?_
    · rintro i x H4 H4' acc Ko hi s4 eD ⟨rfl, ex⟩ k
      obtain ⟨r, er, b, rfl, hb⟩ := Paired.getR hp ex
      refine ⟨rfl, ?_⟩
      refine ⟨_, rfl, b, _, rfl, .inr (Same.seqT s4 hb), _, rfl, rfl, ?_⟩
      rw [List.length_map, hw r (List.mem_of_getElem? er), decide_eq_true rfl]
      exact k _ _ (Same.refl _) rfl
    · intro H4 l s4 eD hl2
      refine ⟨D, List.replicate l.length true, rfl, .inl (.inl (by rw [← paired_true hl2]; exact eD)), true, by rw [all_true], ?_⟩
      refine iteF ?_
      exact ⟨_, rfl, q _ s4⟩
theorem cal_checked_width (T : Top K mg) (hN : base.NoSeer) (hT : P.given.tree = none) : Cal P w K mg base 2 "checked_width" (sp_checked_width K) [] := ⟨⟨_, _, _, [], ok_checked_width T hN hT, T.g_checked_width, T.F_checked_width.kp, T.b_checked_width, .nil⟩⟩
/-! ### Grid.__init__ -/
def sp_Grid_init (K : PySem.W.Frag) (C : Addr) : Sp := fun vs H Q _ => ∃ (p dx : Addr) (v : V) (m : List (List Int)) (w : Nat), vs = [.ref p, v, .int w] ∧ H p = some (.ins C dx []) ∧ IRows K H v m ∧ m.length ≤ 1000 ∧ w ≤ 1000 ∧ (∀ r ∈ m, r.length = w) ∧
  ∀ t H', Off p H H' → H' p = some (.ins C dx (flds t w)) → TRows K H' t m → Q .non H'
theorem trows_off {K : PySem.W.Frag} {H H' : Hp} {p C dx : Addr} {fs : List (Str × V)} {t : V} {m : List (List Int)} (e : H p = some (.ins C dx fs)) (o : Off p H H') (h : TRows K H t m) : TRows K H' t m := by
  have f : ∀ {a : Addr} {xs : List V}, SqT K H a xs → SqT K H' a xs := fun {a xs} h => by
    rcases h with (h | ⟨u, h⟩) | h
    · exact .inl (.inl (o _ _ (ne_of h e (by intro z; cases z)) h))
    · exact .inl (.inr ⟨u, o _ _ (ne_of h e (by intro z; cases z)) h⟩)
    · exact .inr h
  obtain ⟨a, vs, rfl, hs, hp⟩ := h
  exact ⟨a, vs, rfl, f hs, L2.Paired.mapP hp fun v r ⟨b, e, h⟩ => ⟨b, e, f h⟩⟩
theorem ok_Grid_init (T : Top K mg) (hN : base.NoSeer) (hT : P.given.tree = none) : FnOk P w K mg base CX0 3 T.a_Grid_init T.d_Grid_init ["self", "rows", "width"] (sp_Grid_init K T.C_Grid) := by
  refine T.F_Grid_init.ok sc_Grid_init (fun vs H Q E h => ?_) (fun cdv A outer s H vs Q E hr h => ?_)
  · obtain ⟨p, dx, v, m, w, rfl, _⟩ := h
    rfl
  · obtain ⟨p, dx, v, m, w, rfl, hp, hm, hl, hw, hrw, q⟩ := h
    refine ⟨_, PSs.nox (pss_cons (ps_fld (pv 0) (pe_c (cal_checked_rows T hN hT) hr (by decide) (by rfl) (pa_cons (pv 1) pa_nil)) rfl)
      (pss_one (ps_fld (pv 0) (pe_c (cal_checked_width T hN hT) hr (by decide) (by rfl) (pa_cons (fldK K rfl (pv 0) rfl) (pa_cons (pv 2) pa_nil))) rfl))), ?_⟩
    refine ⟨_, rfl, v, m, rfl, hm, hl, fun r hr => by rw [hrw r hr]; exact hw, fun t H1 s1 ht => ?_⟩
    have hp1 := s1 _ _ hp
    refine ⟨_, rfl, p, T.C_Grid, dx, [], rfl, hp1, T.cl_Grid, T.n_rows, by show 0 < 1000; decide, ?_⟩
    refine ⟨_, rfl, p, T.C_Grid, dx, _, t, rfl, upd_same, T.cl_Grid, T.n_rows, ?_, ?_⟩
    · rw [lookup_putF, if_pos rfl]
    have ht2 : TRows K (upd H1 p (.ins T.C_Grid dx (putF "rows" t []))) t m := trows_off hp1 Off.upd ht
    refine ⟨_, rfl, t, m, w, rfl, ht2, hl, hrw, fun H2 s2 => ?_⟩
    have hp2 := s2 _ _ upd_same
    refine ⟨_, rfl, p, T.C_Grid, dx, _, rfl, hp2, T.cl_Grid, T.n_width, by show 1 < 1000; decide, ?_⟩
    refine q t _ (fun b o n e => ?_) upd_same (trows_off hp2 Off.upd (ht2.same s2))
    rw [upd_ne n]
    exact s2 _ _ (Off.upd _ _ n (s1 _ _ e))
theorem mak_Grid (T : Top K mg) (hN : base.NoSeer) (hT : P.given.tree = none) : Mak P w K mg base 3 "Grid" T.C_Grid (sp_Grid_init K T.C_Grid) [] := ⟨⟨_, _, _, [], T.mk_Grid, ok_Grid_init T hN hT, T.g_Grid, T.b_Grid_init, .nil⟩⟩
/-- what a call Grid(rows, width) asks and gives -/
theorem make_grid {K : PySem.W.Frag} {C : Addr} {H1 : Hp} {v : V} {m : List (List Int)} {w : Nat} {Q : VK} {E : XK} (hm : IRows K H1 v m) (hl : m.length ≤ 1000) (hw : w ≤ 1000) (hrw : ∀ r ∈ m, r.length = w) (q : ∀ g H', Same H1 H' → IsGrid K C H' g m w → Q g H') :
    ∀ x dx, H1 x = none → H1 dx = none → dx ≠ x → sp_Grid_init K C (.ref x :: ([v, .int w] ++ [])) (upd (upd H1 dx (.own x)) x (.ins C dx [])) (fun v H2 => v = .non ∧ Q (.ref x) H2) E := fun x dx nx nd ne => by
  have s0 : Same H1 (upd (upd H1 dx (.own x)) x (.ins C dx [])) := fun b o e => by
    rw [upd_ne (ne_of_none e nx), upd_ne (ne_of_none e nd)]
    exact e
  refine ⟨x, dx, v, m, w, rfl, upd_same, hm.same s0, hl, hw, hrw, fun t H' o ho ht => ⟨rfl, ?_⟩⟩
  exact q _ _ (fun b u e => o _ _ (ne_of_none e nx) (s0 _ _ e)) ⟨⟨x, dx, t, rfl, ho, ht⟩, hrw⟩

end
end K44
namespace K44
open PySem PySem.Spec PyProof.Rows L2 Gm
open C8 (Cal Met Mak pe_c pe_mt pe_mt0 pe_mk)
section
variable {P : Program} {w : World} {K : PySem.W.Frag} {mg : Str → Option Value} {base : Heap}
/-! ### dot -/
def dotI (xs ys : List Int) : Int := (List.zipWith (· * ·) xs ys).sum
def sp_dot (K : PySem.W.Frag) : Sp := fun vs H Q _ => ∃ v1 v2 xs ys B1 B2, vs = [v1, v2] ∧ TRow K H v1 xs ∧ TRow K H v2 ys ∧ xs.length = ys.length ∧ xs.length ≤ 1000 ∧ Bits B1 xs ∧ Bits B2 ys ∧ B1 + B2 ≤ 134217728 ∧ ∀ H', Same H H' → Q (.int (dotI xs ys)) H'
def sp_Grid_len (K : PySem.W.Frag) (C : Addr) : Sp := fun vs H Q _ => ∃ v m w, vs = [v] ∧ IsGrid K C H v m w ∧ Q (.int m.length) H
def sp_Grid_is_square (K : PySem.W.Frag) (C : Addr) : Sp := fun vs H Q _ => ∃ v m w, vs = [v] ∧ IsGrid K C H v m w ∧ Q (.bl (decide (m.length = w))) H
theorem m_is_square (t : V) (w : Nat) : (flds t w).lookup ("is_square" : Str) = none := flds_no t w (by decide +kernel) (by decide +kernel)
theorem m_transposed (t : V) (w : Nat) : (flds t w).lookup ("transposed" : Str) = none := flds_no t w (by decide +kernel) (by decide +kernel)
theorem m_determinant (t : V) (w : Nat) : (flds t w).lookup ("determinant" : Str) = none := flds_no t w (by decide +kernel) (by decide +kernel)
theorem m_adjugate (t : V) (w : Nat) : (flds t w).lookup ("adjugate" : Str) = none := flds_no t w (by decide +kernel) (by decide +kernel)
theorem m_is_unimodular (t : V) (w : Nat) : (flds t w).lookup ("is_unimodular" : Str) = none := flds_no t w (by decide +kernel) (by decide +kernel)
def sp_check_square (K : PySem.W.Frag) (C : Addr) : Sp := fun vs H Q _ => ∃ v m w, vs = [v] ∧ IsGrid K C H v m w ∧ m.length = w ∧ Q .non H
def sp_Grid_determinant (K : PySem.W.Frag) (C : Addr) : Sp := fun vs H Q _ => ∃ v m n B, vs = [v] ∧ IsGrid K C H v m n ∧ Sq n B m ∧ n ≤ 5 ∧ B ≤ 1200000 ∧ ∀ H', Same H H' → Q (.int (bare n 1 1 m)) H'
def sp_Grid_is_unimodular (K : PySem.W.Frag) (C : Addr) : Sp := fun vs H Q _ => ∃ v m w, vs = [v] ∧ IsGrid K C H v m w ∧ ((m.length ≠ w ∧ ∀ H', Same H H' → Q (.bl false) H') ∨ ∃ B, Sq w B m ∧ w ≤ 5 ∧ B ≤ 1200000 ∧ ∀ H', Same H H' → Q (.bl (decide ((bare w 1 1 m).natAbs = 1))) H')

end
end K44
namespace K44
open PySem PySem.Spec PyProof.Rows L2 Gm
open C8 (Cal Met Mak pe_c pe_mt pe_mt0 pe_mk)
section
variable {P : Program} {w : World} {K : PySem.W.Frag} {mg : Str → Option Value} {base : Heap}
/-! ### transposed -/
def transp (m : List (List Int)) (w : Nat) : List (List Int) := (List.range w).map fun k => m.map fun r => r.getD k 0
theorem transp_len (m : List (List Int)) (w : Nat) : (transp m w).length = w := by
  unfold transp
  rw [List.length_map, List.length_range]
theorem transp_row {m : List (List Int)} {w : Nat} : ∀ r ∈ transp m w, r.length = m.length := fun r hr => by
  obtain ⟨k, _, rfl⟩ := List.mem_map.mp hr
  rw [List.length_map]
theorem transp_get {m : List (List Int)} {w k : Nat} (h : k < w) : (transp m w).getD k [] = m.map fun r => r.getD k 0 := by
  unfold transp
  rw [List.getD_eq_getElem?_getD, List.getElem?_map, List.getElem?_range h]
  rfl
def sp_Grid_transposed (K : PySem.W.Frag) (C : Addr) : Sp := fun vs H Q _ => ∃ v m w, vs = [v] ∧ IsGrid K C H v m w ∧ m.length ≤ 1000 ∧ w ≤ 1000 ∧ ∀ g H', Same H H' → IsGrid K C H' g (transp m w) m.length → Q g H'
def mulM (m1 m2 : List (List Int)) (w : Nat) : List (List Int) := m1.map fun r => (transp m2 w).map fun c => dotI r c
theorem mulM_len (m1 m2 : List (List Int)) (w : Nat) : (mulM m1 m2 w).length = m1.length := List.length_map ..
theorem mulM_row {m1 m2 : List (List Int)} {w : Nat} : ∀ r ∈ mulM m1 m2 w, r.length = w := fun r hr => by
  obtain ⟨k, _, rfl⟩ := List.mem_map.mp hr
  rw [List.length_map, transp_len]
theorem transp_bits {m : List (List Int)} {w B : Nat} (hw : ∀ r ∈ m, r.length = w) (hb : ∀ r ∈ m, Bits B r) : ∀ r ∈ transp m w, Bits B r := fun r hr x hx => by
  obtain ⟨k, hk, rfl⟩ := List.mem_map.mp hr
  obtain ⟨r', hr', rfl⟩ := List.mem_map.mp hx
  have hk' : k < r'.length := by rw [hw r' hr']; exact List.mem_range.mp hk
  rw [List.getD_eq_getElem?_getD, List.getElem?_eq_getElem hk']
  exact hb r' hr' _ (List.getElem_mem _)
def sp_Grid_mul (K : PySem.W.Frag) (C : Addr) : Sp := fun vs H Q _ => ∃ v1 m1 w1 v2 m2 w2 B1 B2, vs = [v1, v2] ∧ IsGrid K C H v1 m1 w1 ∧ IsGrid K C H v2 m2 w2 ∧ w1 = m2.length ∧ m1.length ≤ 1000 ∧ m2.length ≤ 1000 ∧ w2 ≤ 1000 ∧
  (∀ r ∈ m1, Bits B1 r) ∧ (∀ r ∈ m2, Bits B2 r) ∧ B1 + B2 ≤ 134217728 ∧ ∀ g H', Same H H' → IsGrid K C H' g (mulM m1 m2 w2) w2 → Q g H'
def cutM (m : List (List Int)) (i j : Nat) : List (List Int) := (m.eraseIdx i).map fun r => r.eraseIdx j
theorem cutM_sq {n B : Nat} {m : List (List Int)} (h : Sq (n + 1) B m) {i j : Nat} (hi : i < n + 1) (hj : j < n + 1) : Sq n B (cutM m i j) := by
  have hi' : i < m.length := by rw [h.len]; exact hi
  refine ⟨?_, fun r hr => ?_, fun r hr => ?_⟩
  · unfold cutM
    rw [List.length_map, List.length_eraseIdx_of_lt hi', h.len]
    rfl
  · obtain ⟨r', hr', rfl⟩ := List.mem_map.mp hr
    have h1 := h.row r' (List.mem_of_mem_eraseIdx hr')
    rw [List.length_eraseIdx_of_lt (by omega), h1]
    rfl
  · obtain ⟨r', hr', rfl⟩ := List.mem_map.mp hr
    exact fun x hx => h.bits r' (List.mem_of_mem_eraseIdx hr') x (List.mem_of_mem_eraseIdx hx)
theorem erase_eq (l : List Int) (j : Nat) : l.take j ++ l.drop (j + 1) = l.eraseIdx j := (List.eraseIdx_eq_take_drop_succ l j).symm
def sp_minor (K : PySem.W.Frag) : Sp := fun vs H Q _ => ∃ (v : V) (m : List (List Int)) (n B i j : Nat), vs = [v, .int i, .int j] ∧ TRows K H v m ∧ Sq (n + 1) B m ∧ n ≤ 5 ∧ i < n + 1 ∧ j < n + 1 ∧ B ≤ 1200000 ∧ ∀ H', Same H H' → Q (.int (bare n 1 1 (cutM m i j))) H'
def sminor (n : Nat) (m : List (List Int)) (i j : Nat) : Int := if (i + j) % 2 = 1 then -bare n 1 1 (cutM m i j) else bare n 1 1 (cutM m i j)
def sp_signed_minor (K : PySem.W.Frag) : Sp := fun vs H Q _ => ∃ (v : V) (m : List (List Int)) (n B i j : Nat), vs = [v, .int i, .int j] ∧ TRows K H v m ∧ Sq (n + 1) B m ∧ n ≤ 5 ∧ i < n + 1 ∧ j < n + 1 ∧ B ≤ 1200000 ∧ ∀ H', Same H H' → Q (.int (sminor n m i j)) H'
def adjM (n : Nat) (m : List (List Int)) : List (List Int) := (List.range m.length).map fun i => (List.range m.length).map fun j => sminor n m j i
theorem adjM_get {n i : Nat} {m : List (List Int)} (h : i < m.length) : (adjM n m).getD i [] = (List.range m.length).map fun j => sminor n m j i := by
  unfold adjM
  rw [List.getD_eq_getElem?_getD, List.getElem?_map, List.getElem?_range h]
  rfl
theorem adjM_len (n : Nat) (m : List (List Int)) : (adjM n m).length = m.length := by
  unfold adjM
  rw [List.length_map, List.length_range]
theorem adjM_row {n : Nat} {m : List (List Int)} : ∀ r ∈ adjM n m, r.length = m.length := fun r hr => by
  obtain ⟨k, _, rfl⟩ := List.mem_map.mp hr
  rw [List.length_map, List.length_range]
def sp_adjugate_of (K : PySem.W.Frag) : Sp := fun vs H Q _ => ∃ (v : V) (m : List (List Int)) (n B : Nat), vs = [v] ∧ TRows K H v m ∧ Sq n B m ∧ n ≤ 5 ∧ B ≤ 1200000 ∧ ∀ v' H', Same H H' → IRows K H' v' (adjM (n - 1) m) → Q v' H'
def sp_Grid_adjugate (K : PySem.W.Frag) (C : Addr) : Sp := fun vs H Q _ => ∃ v m n B, vs = [v] ∧ IsGrid K C H v m n ∧ Sq n B m ∧ n ≤ 5 ∧ B ≤ 1200000 ∧ ∀ g H', Same H H' → IsGrid K C H' g (adjM (n - 1) m) n → Q g H'

end
end K44
namespace K44
open PySem PySem.Spec PyProof.Rows L2 Gm
open C8 (Cal Met Mak pe_c pe_mt pe_mt0 pe_mk)
section
variable {P : Program} {w : World} {K : PySem.W.Frag} {mg : Str → Option Value} {base : Heap}
/-! ### scaled -/
def scaleM (k : Int) (m : List (List Int)) : List (List Int) := m.map fun r => r.map fun x => k * x
theorem scaleM_len (k : Int) (m : List (List Int)) : (scaleM k m).length = m.length := List.length_map ..
theorem scaleM_row {k : Int} {m : List (List Int)} {w : Nat} (h : ∀ r ∈ m, r.length = w) : ∀ r ∈ scaleM k m, r.length = w := fun r hr => by
  obtain ⟨x, hx, rfl⟩ := List.mem_map.mp hr
  rw [List.length_map]
  exact h x hx
def sp_Grid_scaled (K : PySem.W.Frag) (C : Addr) : Sp := fun vs H Q _ => ∃ v m w k Bk B, vs = [v, .int k] ∧ IsGrid K C H v m w ∧ m.length ≤ 1000 ∧ w ≤ 1000 ∧ k.natAbs < 2 ^ Bk ∧ (∀ r ∈ m, Bits B r) ∧ Bk + B ≤ 134217728 ∧ ∀ g H', Same H H' → IsGrid K C H' g (scaleM k m) w → Q g H'
theorem m_scaled (t : V) (w : Nat) : (flds t w).lookup ("scaled" : Str) = none := flds_no t w (by decide +kernel) (by decide +kernel)
theorem m_times (t : V) (w : Nat) : (flds t w).lookup ("times" : Str) = none := flds_no t w (by decide +kernel) (by decide +kernel)
theorem m_before (t : V) (w : Nat) : (flds t w).lookup ("before" : Str) = none := flds_no t w (by decide +kernel) (by decide +kernel)
theorem m_stacked (t : V) (w : Nat) : (flds t w).lookup ("stacked" : Str) = none := flds_no t w (by decide +kernel) (by decide +kernel)
/-! ### -a -/
def sp_Grid_neg (K : PySem.W.Frag) (C : Addr) : Sp := fun vs H Q _ => ∃ v m w B, vs = [v] ∧ IsGrid K C H v m w ∧ m.length ≤ 1000 ∧ w ≤ 1000 ∧ (∀ r ∈ m, Bits B r) ∧ B ≤ 1200000 ∧ ∀ g H', Same H H' → IsGrid K C H' g (scaleM (-1) m) w → Q g H'
def timesM (m : List (List Int)) (r : List Int) : List Int := m.map fun o => dotI o r
def sp_Grid_times (K : PySem.W.Frag) (C : Addr) : Sp := fun vs H Q _ => ∃ v m w u r B1 B2, vs = [v, u] ∧ IsGrid K C H v m w ∧ TRow K H u r ∧ r.length = w ∧ m.length ≤ 1000 ∧ w ≤ 1000 ∧ (∀ o ∈ m, Bits B1 o) ∧ Bits B2 r ∧ B1 + B2 ≤ 134217728 ∧ ∀ v' H', Same H H' → TRow K H' v' (timesM m r) → Q v' H'
def sp_Grid_before (K : PySem.W.Frag) (C : Addr) : Sp := fun vs H Q _ => ∃ v m w u r B1 B2, vs = [v, u] ∧ IsGrid K C H v m w ∧ TRow K H u r ∧ r.length = m.length ∧ m.length ≤ 1000 ∧ w ≤ 1000 ∧ (∀ o ∈ m, Bits B1 o) ∧ Bits B2 r ∧ B1 + B2 ≤ 134217728 ∧ ∀ v' H', Same H H' → TRow K H' v' (timesM (transp m w) r) → Q v' H'

end
end K44
namespace K44
open PySem PySem.Spec PyProof.Rows L2 Gm
open C8 (Cal Met Mak pe_c pe_mt pe_mt0 pe_mk)
section
variable {P : Program} {w : World} {K : PySem.W.Frag} {mg : Str → Option Value} {base : Heap}
/-! ### tables as data -/
def pdR (r : List Int) : PyData := .tuple (r.map .int)
def pdM (m : List (List Int)) : PyData := .tuple (m.map pdR)
theorem dp_ints {K : PySem.W.Frag} {H : Hp} : ∀ r : List Int, DpAll K H (r.map V.int) (r.map PyData.int)
  | [] => .nil
  | _ :: r => .cons (.int _) (dp_ints r)
theorem dp_row {K : PySem.W.Frag} {H : Hp} {v : V} {r : List Int} (h : TRow K H v r) : Dp K H v (pdR r) := by
  obtain ⟨a, rfl, hs⟩ := h
  exact .tup hs (dp_ints r)
theorem dp_paired {K : PySem.W.Frag} {H : Hp} : ∀ {vs : List V} {m : List (List Int)}, Paired (TRow K H) vs m → DpAll K H vs (m.map pdR)
  | _, _, .nil => .nil
  | _, _, .cons r t => .cons (dp_row r) (dp_paired t)
theorem dp_rows {K : PySem.W.Frag} {H : Hp} {v : V} {m : List (List Int)} (h : TRows K H v m) : Dp K H v (pdM m) := by
  obtain ⟨a, vs, rfl, hs, hp⟩ := h
  exact .tup hs (dp_paired hp)
theorem lay_ints : ∀ r : List Int, PyData.canLayAll0 (r.map PyData.int) = true
  | [] => by simp [PyData.canLayAll0]
  | _ :: r => by simp [PyData.canLayAll0, PyData.canLay0, lay_ints r]
theorem lay_rows : ∀ m : List (List Int), PyData.canLayAll0 (m.map pdR) = true
  | [] => by simp [PyData.canLayAll0]
  | r :: m => by simp [PyData.canLayAll0, PyData.canLay0, pdR, lay_rows m, lay_ints r]
theorem lay_pdM (m : List (List Int)) : (pdM m).canLay0 = true := by simp [pdM, PyData.canLay0, lay_rows m]
theorem dep_ints : ∀ r : List Int, PyData.depthAll (r.map PyData.int) = 0
  | [] => by simp [PyData.depthAll]
  | _ :: r => by simp [PyData.depthAll, PyData.depth, dep_ints r]
theorem dep_rows : ∀ m : List (List Int), PyData.depthAll (m.map pdR) ≤ 1
  | [] => by simp [PyData.depthAll]
  | r :: m => by
    have := dep_rows m
    simp only [List.map_cons, PyData.depthAll, PyData.depth, pdR, dep_ints r]
    omega
theorem shaped_pdM (m : List (List Int)) : SeqAt.shaped (pdM m) = true := by
  unfold SeqAt.shaped
  rw [Bool.and_eq_true, lay_pdM]
  refine ⟨rfl, decide_eq_true ?_⟩
  have := dep_rows m
  simp only [pdM, PyData.depth]
  omega
/-- equal tables are equal -/
theorem ne_rows {K : PySem.W.Frag} {H : Hp} {v u : V} {m1 m2 : List (List Int)} {Q : VK} (h1 : TRows K H v m1) (h2 : TRows K H u m2) (e : m1 = m2) (q : Q (.bl false) H) : rNeD K v u H Q := by
  subst e
  refine ⟨pdM m1, pdM m1, dp_rows h1, dp_rows h2, shaped_pdM _, shaped_pdM _, ?_⟩
  rw [PySem.SeqAt.eqv_refl _ (lay_pdM m1)]
  exact q

end
end K44
namespace K44
open PySem PySem.Spec PyProof.Rows L2 Gm
open C8 (Cal Met Mak pe_c pe_mt pe_mt0 pe_mk)
section
variable {P : Program} {w : World} {K : PySem.W.Frag} {mg : Str → Option Value} {base : Heap}
theorem row_ty {K : PySem.W.Frag} {H : Hp} {a : Addr} {xs : List V} (h : SqT K H a xs) : TyX K H (.ref a) (.type "tuple") := by
  rcases h with (h | ⟨o, h⟩) | ⟨o, its, n, h, c, _⟩
  · exact .base (.tup h)
  · exact .fTuple h
  · exact .kTuple h c

end
end K44
namespace K44
open PySem PySem.Spec PyProof.Rows L2 Gm
open C8 (Cal Met Mak pe_c pe_mt pe_mt0 pe_mk)
section
variable {P : Program} {w : World} {K : PySem.W.Frag} {mg : Str → Option Value} {base : Heap}
theorem eqv_ints : ∀ r q : List Int, PyData.eqvAll (r.map PyData.int) (q.map PyData.int) = decide (r = q)
  | [], [] => by simp [PyData.eqvAll]
  | [], b :: q => by simp [PyData.eqvAll]
  | a :: r, [] => by simp [PyData.eqvAll]
  | a :: r, b :: q => by
    simp only [List.map_cons, PyData.eqvAll, PyData.eqv, eqv_ints r q]
    by_cases h : a = b
    · subst h
      by_cases h2 : r = q
      · subst h2
        simp
      · simp [h2]
    · simp [h]
theorem eqv_rows : ∀ m l : List (List Int), PyData.eqvAll (m.map pdR) (l.map pdR) = decide (m = l)
  | [], [] => by simp [PyData.eqvAll]
  | [], b :: q => by simp [PyData.eqvAll]
  | a :: r, [] => by simp [PyData.eqvAll]
  | a :: r, b :: q => by
    simp only [List.map_cons, PyData.eqvAll, pdR, PyData.eqv, eqv_ints a b]
    have ih := eqv_rows r q
    rw [ih]
    by_cases h : a = b
    · subst h
      by_cases h2 : r = q
      · subst h2
        simp
      · simp [h2]
    · simp [h]
theorem eqv_pdM (m l : List (List Int)) : PyData.eqv (pdM m) (pdM l) = decide (m = l) := by
  simp only [pdM, PyData.eqv]
  exact eqv_rows m l
theorem eq_rows {K : PySem.W.Frag} {H : Hp} {v u : V} {m1 m2 : List (List Int)} {Q : VK} (h1 : TRows K H v m1) (h2 : TRows K H u m2) (q : Q (.bl (decide (m1 = m2))) H) : rEqD K v u H Q := by
  refine ⟨pdM m1, pdM m2, dp_rows h1, dp_rows h2, shaped_pdM _, shaped_pdM _, ?_⟩
  rw [eqv_pdM]
  exact q
theorem tup_not {K : PySem.W.Frag} {C : Addr} : PySem.W.subIn K (.type "tuple") (.ref C) = some false := by
  have e : fastBuiltinMro "tuple" = some [.type "tuple", .type "object"] := by decide +kernel
  show (fastBuiltinMro "tuple").map (·.contains (.ref C)) = some false
  rw [e] <;> rfl
/-! ### a == b -/
def sp_Grid_eq (K : PySem.W.Frag) (C : Addr) : Sp := fun vs H Q _ => ∃ v m w u m2, vs = [v, u] ∧ IsGrid K C H v m w ∧ ((∃ w2, IsGrid K C H u m2 w2 ∧ Q (.bl (decide (m = m2 ∧ w = w2))) H) ∨ (TRows K H u m2 ∧ Q (.bl false) H))
theorem ok_Grid_eq (T : Top K mg) (hN : base.NoSeer) (hT : P.given.tree = none) : FnOk P w K mg base CX0 1 T.a_Grid_eq T.d_Grid_eq ["self", "other"] (sp_Grid_eq K T.C_Grid) := by
  refine T.F_Grid_eq.ok sc_Grid_eq (fun vs H Q E h => ?_) (fun cdv A outer s H vs Q E hr h => ?_)
  · obtain ⟨v, m, w, u, m2, rfl, _⟩ := h
    rfl
  · obtain ⟨v, m, n, u, m2, rfl, G, q⟩ := h
    obtain ⟨⟨p, dx, t, rfl, ho, ht⟩, hrw⟩ := id G
    refine ⟨_, (pss_one (ps_ret (pe_and (pe_callB (isiK K rfl) (by rfl) T.z_isinstance (by decide +kernel) (pa_cons (pv 1) (pa_cons (pe_glob (by rfl) T.g_Grid (show RelV (.ref T.C_Grid) _ from rfl)) pa_nil))) (pe_and (pe_cmpR (eqDK K rfl hr) (fldK K rfl (pv 0) rfl) (fldK K rfl (pv 1) rfl) (nomark _)) (pe_one (pe_cmpR op_eq (fldK K rfl (pv 0) rfl) (fldK K rfl (pv 1) rfl) (nomark _))))))), ?_⟩
    rcases q with ⟨w2, G2, q⟩ | ⟨hu, q⟩
    · obtain ⟨⟨p2, dx2, t2, rfl, ho2, ht2⟩, hrw2⟩ := id G2
      refine ⟨_, rfl, .ref p2, .ref T.C_Grid, _, _, true, rfl, .own _, .base (.ins ho2 T.cl_Grid T.kc_Grid T.kg_Grid T.kt_Grid T.km_Grid), ?_, true, rfl, ?_⟩
      · unfold PySem.W.kitOne
        rw [if_pos (beq_self_eq_true _)]
      refine iteT ?_
      refine ⟨_, rfl, p, T.C_Grid, dx, _, _, rfl, ho, T.cl_Grid, T.n_rows, flds_rows _ _, _, rfl, p2, T.C_Grid, dx2, _, _, rfl, ho2, T.cl_Grid, T.n_rows, flds_rows _ _, eq_rows ht ht2 ⟨_, rfl, ?_⟩⟩
      by_cases hm : m = m2
      · rw [decide_eq_true hm]
        refine iteT ?_
        refine ⟨_, rfl, p, T.C_Grid, dx, _, _, rfl, ho, T.cl_Grid, T.n_width, flds_width _ _, _, rfl, p2, T.C_Grid, dx2, _, _, rfl, ho2, T.cl_Grid, T.n_width, flds_width _ _, rfl, ?_⟩
        have e : decide (V.int (n : Int) = V.int (w2 : Int)) = decide (m = m2 ∧ n = w2) := by
          by_cases hw : n = w2
          · rw [decide_eq_true (show m = m2 ∧ n = w2 from ⟨hm, hw⟩), decide_eq_true (by rw [hw])]
          · rw [decide_eq_false (fun z : m = m2 ∧ n = w2 => hw z.2), decide_eq_false (fun z => hw (by have := V.int.inj z; omega))]
        show Q (.bl (decide (V.int (n : Int) = V.int (w2 : Int)))) H
        rw [e]
        exact q
      · rw [decide_eq_false hm]
        refine iteF ?_
        rw [decide_eq_false (fun z : m = m2 ∧ n = w2 => hm z.1)] at q
        exact q
    · obtain ⟨a, ws, rfl, hs, hp⟩ := id hu
      refine ⟨_, rfl, .ref a, .ref T.C_Grid, _, _, false, rfl, .own _, row_ty hs, ?_, false, rfl, ?_⟩
      · show (if (Value.type "tuple" == Value.ref T.C_Grid) = true then some true else if ((PySem.W.clsIn K T.C_Grid).isSome && PySem.W.typeIn K (.ref T.C_Grid) == some (.type "type")) = true then PySem.W.subIn K (.type "tuple") (.ref T.C_Grid) else none) = some false
        have e2 : ((PySem.W.clsIn K T.C_Grid).isSome && PySem.W.typeIn K (.ref T.C_Grid) == some (.type "type")) = true := by
          have e := T.ic_Grid
          have e' : (PySem.W.clsIn K T.C_Grid).isSome = true := e
          rw [e', T.ty_Grid] <;> rfl
        rw [if_neg (by simp), if_pos e2]
        exact tup_not
      exact iteF q
/-! ### stacked -/
theorem paired_app {α β : Type} {F : α → β → Prop} : ∀ {xs : List α} {ys : List β} {xs2 : List α} {ys2 : List β}, Paired F xs ys → Paired F xs2 ys2 → Paired F (xs ++ xs2) (ys ++ ys2)
  | _, _, _, _, .nil, h => h
  | _, _, _, _, .cons r t, h => .cons r (paired_app t h)
def sp_Grid_stacked (K : PySem.W.Frag) (C : Addr) : Sp := fun vs H Q _ => ∃ v m w u m2, vs = [v, u] ∧ IsGrid K C H v m w ∧ IsGrid K C H u m2 w ∧ m.length + m2.length ≤ 1000 ∧ w ≤ 1000 ∧ ∀ g H', Same H H' → IsGrid K C H' g (m ++ m2) w → Q g H'

end
end K44
namespace K44
open PySem PySem.Spec PyProof.Rows L2 Gm
open C8 (Cal Met Mak pe_c pe_mt pe_mt0 pe_mk)
section
variable {P : Program} {w : World} {K : PySem.W.Frag} {mg : Str → Option Value} {base : Heap}
theorem bools_list : ∀ {is : List Nat} {l : List V} {f : Nat → Bool}, Paired (fun i v => v = V.bl (f i)) is l → l = (is.map f).map V.bl
  | _, _, _, .nil => rfl
  | _, _, _, .cons r t => by
    rw [r, bools_list t]
    rfl
theorem not_all {f : Nat → Bool} {n i : Nat} (hi : i < n) (h : f i = false) : ((List.range n).map f).all id = false := by
  rw [List.all_eq_false]
  exact ⟨false, List.mem_map.mpr ⟨i, List.mem_range.mpr hi, h⟩, by simp⟩

end
end K44
namespace K44
open PySem PySem.Spec PyProof.Rows L2 Gm
open C8 (Cal Met Mak pe_c pe_mt pe_mt0 pe_mk)
section
variable {P : Program} {w : World} {K : PySem.W.Frag} {mg : Str → Option Value} {base : Heap}
/-! ### the width that isn't told -/
def sp_checked_width_N (K : PySem.W.Frag) : Sp := fun vs H Q _ => ∃ (v : V) (m : List (List Int)) (w : Nat), vs = [v, .non] ∧ TRows K H v m ∧ 0 < m.length ∧ m.length ≤ 1000 ∧ (∀ r ∈ m, r.length = w) ∧ ∀ H', Same H H' → Q (.int w) H'
theorem ok_checked_width_N (T : Top K mg) (hN : base.NoSeer) (hT : P.given.tree = none) : FnOk P w K mg base CX0 2 T.a_checked_width T.d_checked_width ["rows", "width"] (sp_checked_width_N K) := by
  refine T.F_checked_width.ok sc_checked_width (fun vs H Q E h => ?_) (fun cdv A outer s H vs Q E hr h => ?_)
  · obtain ⟨v, m, w, rfl, _⟩ := h
    rfl
  · obtain ⟨v, m, w, rfl, hm, h0, hl, hw, q⟩ := h
    obtain ⟨a, ws, rfl, hs, hp⟩ := id hm
    have lw := Paired.length hp
    obtain ⟨v0, ev0⟩ : ∃ v0, ws[0]? = some v0 := ⟨ws[0]'(by omega), List.getElem?_eq_getElem (by omega)⟩
    obtain ⟨r0, er0, b0, rfl, hb0⟩ := Paired.getR hp ev0
    have hr0 := hw r0 (List.mem_of_getElem? er0)
    refine ⟨_, (pss_cons (ps_if (pt_cmpR op_isN (pv 1) pe_non (nomark _))
      (pss_one (ps_set (i := 1) sc_checked_width.nd rfl (by first | exact .inl rfl | exact .inr rfl) (pe_ifExp (pt_cmpR op_gt (pe_callB (lenS K rfl) (by rfl) T.z_len (by decide +kernel) (pa_cons (pv 0) pa_nil)) pe_int (nomark _)) (pe_callB (lenS K rfl) (by rfl) T.z_len (by decide +kernel) (pa_cons (pe_ix (ixT K rfl) (pv 0) pe_int (fun _ _ => rfl)) pa_nil)) pe_int)))
      pss_nil)
      (pss_cons (ps_if (PW.pt (pw_or (pt_not (pt_val (pe_c (cal_is_integer T hN hT) hr (by decide) (by rfl) (pa_cons (pv 1) pa_nil)))) (pw_or1 (pt_cmpR op_lt (pv 1) pe_int (nomark _)))))
      (pss_one ps_never)
      pss_nil)
      (pss_cons (ps_if (pt_not (pt_val (pe_callB (allK K rfl rfl) (by rfl) T.z_all (by decide +kernel) (pa_cons (pe_lc (own := [("row", 2)]) (g := (gName 2)) (by rfl) sc_checked_width.nd (piS K rfl (pv 0)) ((by show BlkOk ["rows", "width", "row"] (defScope s_checked_width) _ _; exact blkOk_by (by decide +kernel))) (fun _ _ _ _ _ => (pg_name (i := 2) sc_checked_width.nd rfl (by first | exact .inl rfl | exact .inr rfl))) (fun _ _ _ _ _ => pts_nil) (fun _ _ _ _ _ => (pe_cmpR op_eq (pe_callB (lenS K rfl) (by rfl) T.z_len (by decide +kernel) (pa_cons (pv 2) pa_nil)) (pv 1) (nomark _)))) pa_nil))))
      (pss_one ps_never)
      pss_nil)
      (pss_one (ps_ret (pv 1)))))), ?_⟩
    refine ⟨_, rfl, rfl, _, rfl, ?_⟩
    rw [decide_eq_true rfl]
    refine iteT ?_
    refine ⟨_, rfl, a, ws, rfl, .inr hs, _, _, rfl, rfl, _, rfl, ?_⟩
    rw [decide_eq_true (by omega)]
    refine iteT ?_
    refine ⟨_, rfl, a, ws, _, _, rfl, rfl, hs, atI_nat (j := 0) ev0, b0, _, rfl, .inr hb0, ?_⟩
    rw [List.length_map, hr0]
    refine ⟨_, rfl, _, rfl, true, rfl, iteF ⟨_, rfl, _, _, rfl, rfl, _, rfl, ?_⟩⟩
    rw [decide_eq_false (by omega)]
    refine iteF ?_
    refine ⟨_, rfl, a, ws, rfl, .inr hs, fun J2 G2 W2 hG2 D hD => ?_⟩
    refine lc_all W2 hD (by omega) (fun H4 s4 => hG2 H4 fun b _ o => s4 b o) (fun _ v _ => v = .bl true) (fun _ _ _ _ _ _ _ h => h) ?_ gm_name ?_
    · rintro i x H4 H4' acc Ko hi s4 eD ⟨rfl, ex⟩ k
      obtain ⟨r, er, b, rfl, hb⟩ := Paired.getR hp ex
      refine ⟨rfl, ?_⟩
      refine ⟨_, rfl, b, _, rfl, .inr (Same.seqT s4 hb), _, rfl, rfl, ?_⟩
      rw [List.length_map, hw r (List.mem_of_getElem? er), decide_eq_true rfl]
      exact k _ _ (Same.refl _) rfl
    · intro H4 l s4 eD hl2
      refine ⟨D, List.replicate l.length true, rfl, .inl (.inl (by rw [← paired_true hl2]; exact eD)), true, by rw [all_true], ?_⟩
      refine iteF ?_
      exact ⟨_, rfl, q _ s4⟩
theorem cal_checked_width_N (T : Top K mg) (hN : base.NoSeer) (hT : P.given.tree = none) : Cal P w K mg base 2 "checked_width" (sp_checked_width_N K) [] := ⟨⟨_, _, _, [], ok_checked_width_N T hN hT, T.g_checked_width, T.F_checked_width.kp, T.b_checked_width, .nil⟩⟩
def sp_checked_width_NX (K : PySem.W.Frag) (X : Addr) : Sp := fun vs H _ E => ∃ (v : V) (m : List (List Int)) (i : Nat), vs = [v, .non] ∧ TRows K H v m ∧ 0 < m.length ∧ m.length ≤ 1000 ∧ (∃ r0 r, m[0]? = some r0 ∧ m[i]? = some r ∧ r.length ≠ r0.length) ∧ ∀ H', Same H H' → E (.ref X) none H'
theorem ok_checked_width_NX (T : Top K mg) (hN : base.NoSeer) (hT : P.given.tree = none) : FnOk P w K mg base (L2.CX P w) 2 T.a_checked_width T.d_checked_width ["rows", "width"] (sp_checked_width_NX K T.X_Malformed) := by
  refine T.F_checked_width.okX sc_checked_width (fun vs H Q E h => ?_) (fun cdv A outer s H vs Q E hr h => ?_)
  · obtain ⟨v, m, i, rfl, _⟩ := h
    rfl
  · obtain ⟨v, m, i0, rfl, hm, h0, hl, ⟨r0, r1, er0, er1, hne⟩, q⟩ := h
    obtain ⟨a, ws, rfl, hs, hp⟩ := id hm
    have lw := Paired.length hp
    obtain ⟨v0, ev0, b0, rfl, hb0⟩ := Paired.getR (Paired.swap hp) er0
    refine ⟨_, (pss_cons (ps_if (pt_cmpR op_isN (pv 1) pe_non (nomark _))
      (pss_one (ps_set (i := 1) sc_checked_width.nd rfl (by first | exact .inl rfl | exact .inr rfl) (pe_ifExp (pt_cmpR op_gt (pe_callB (lenS K rfl) (by rfl) T.z_len (by decide +kernel) (pa_cons (pv 0) pa_nil)) pe_int (nomark _)) (pe_callB (lenS K rfl) (by rfl) T.z_len (by decide +kernel) (pa_cons (pe_ix (ixT K rfl) (pv 0) pe_int (fun _ _ => rfl)) pa_nil)) pe_int)))
      pss_nil)
      (pss_cons (ps_if (PW.pt (pw_or (pt_not (pt_val (pe_c (cal_is_integer T hN hT) hr (by decide) (by rfl) (pa_cons (pv 1) pa_nil)))) (pw_or1 (pt_cmpR op_lt (pv 1) pe_int (nomark _)))))
      (pss_one ps_never)
      pss_nil)
      (pss_cons (ps_if (pt_not (pt_val (pe_callB (allK K rfl rfl) (by rfl) T.z_all (by decide +kernel) (pa_cons (pe_lc (own := [("row", 2)]) (g := (gName 2)) (by rfl) sc_checked_width.nd (piS K rfl (pv 0)) ((by show BlkOk ["rows", "width", "row"] (defScope s_checked_width) _ _; exact blkOk_by (by decide +kernel))) (fun _ _ _ _ _ => (pg_name (i := 2) sc_checked_width.nd rfl (by first | exact .inl rfl | exact .inr rfl))) (fun _ _ _ _ _ => pts_nil) (fun _ _ _ _ _ => (pe_cmpR op_eq (pe_callB (lenS K rfl) (by rfl) T.z_len (by decide +kernel) (pa_cons (pv 2) pa_nil)) (pv 1) (nomark _)))) pa_nil))))
      (pss_one (ps_raise rfl (takes_of rfl rfl rfl rfl) (pmk_own PySem.F.excBase_ValueError T.xX_Malformed T.gX_Malformed T.kX_Malformed (raises_own T.bX_Malformed T.tX_Malformed) (by exact rfl))))
      pss_nil)
      (pss_one (ps_ret (pv 1)))))), ?_⟩
    refine ⟨_, rfl, rfl, _, rfl, ?_⟩
    rw [decide_eq_true rfl]
    refine iteT ?_
    refine ⟨_, rfl, a, ws, rfl, .inr hs, _, _, rfl, rfl, _, rfl, ?_⟩
    rw [decide_eq_true (by omega)]
    refine iteT ?_
    refine ⟨_, rfl, a, ws, _, _, rfl, rfl, hs, atI_nat (j := 0) ev0, b0, _, rfl, .inr hb0, ?_⟩
    rw [List.length_map]
    refine ⟨_, rfl, _, rfl, true, rfl, iteF ⟨_, rfl, _, _, rfl, rfl, _, rfl, ?_⟩⟩
    rw [decide_eq_false (by omega)]
    refine iteF ?_
    refine ⟨_, rfl, a, ws, rfl, .inr hs, fun J2 G2 W2 hG2 D hD => ?_⟩
    refine lc_all W2 hD (by omega) (fun H4 s4 => hG2 H4 fun b _ o => s4 b o) (fun i v _ => v = .bl (decide ((m.getD i []).length = r0.length))) (fun _ _ _ _ _ _ _ h => h) ?_ gm_name ?_
    · rintro i x H4 H4' acc Ko hi s4 eD ⟨rfl, ex⟩ k
      obtain ⟨r, er, b, rfl, hb⟩ := Paired.getR hp ex
      refine ⟨rfl, ?_⟩
      refine ⟨_, rfl, b, _, rfl, .inr (Same.seqT s4 hb), _, rfl, rfl, ?_⟩
      refine k _ _ (Same.refl _) ?_
      rw [List.getD_eq_getElem?_getD, er, List.length_map]
      show V.bl (decide (V.int (r.length : Int) = V.int (r0.length : Int))) = V.bl (decide (r.length = r0.length))
      refine congrArg V.bl ?_
      by_cases h : r.length = r0.length
      · rw [decide_eq_true h, decide_eq_true (by rw [h])]
      · rw [decide_eq_false h, decide_eq_false (fun z => h (by have := V.int.inj z; omega))]
    · intro H4 l s4 eD hl2
      refine ⟨D, (List.range ws.length).map fun i => decide ((m.getD i []).length = r0.length), rfl, .inl (.inl (by rw [← bools_list hl2]; exact eD)), false, ?_, ?_⟩
      · have hi0 : i0 < m.length := (List.getElem?_eq_some_iff.mp er1).1
        rw [not_all (i := i0) (by omega) (by rw [List.getD_eq_getElem?_getD, er1]; exact decide_eq_false hne)]
      · refine iteT ?_
        exact q _ s4
/-! ### the constructor without a width; that raises -/
def sp_Grid_init_N (K : PySem.W.Frag) (C : Addr) : Sp := fun vs H Q _ => ∃ (p dx : Addr) (v : V) (m : List (List Int)) (w : Nat), vs = [.ref p, v, .non] ∧ H p = some (.ins C dx []) ∧ IRows K H v m ∧ 0 < m.length ∧ m.length ≤ 1000 ∧ w ≤ 1000 ∧ (∀ r ∈ m, r.length = w) ∧
  ∀ t H', Off p H H' → H' p = some (.ins C dx (flds t w)) → TRows K H' t m → Q .non H'
theorem ok_Grid_init_N (T : Top K mg) (hN : base.NoSeer) (hT : P.given.tree = none) : FnOk P w K mg base CX0 3 T.a_Grid_init T.d_Grid_init ["self", "rows", "width"] (sp_Grid_init_N K T.C_Grid) := by
  refine T.F_Grid_init.ok sc_Grid_init (fun vs H Q E h => ?_) (fun cdv A outer s H vs Q E hr h => ?_)
  · obtain ⟨p, dx, v, m, w, rfl, _⟩ := h
    rfl
  · obtain ⟨p, dx, v, m, w, rfl, hp, hm, h0, hl, hw, hrw, q⟩ := h
    refine ⟨_, PSs.nox (pss_cons (ps_fld (pv 0) (pe_c (cal_checked_rows T hN hT) hr (by decide) (by rfl) (pa_cons (pv 1) pa_nil)) rfl)
      (pss_one (ps_fld (pv 0) (pe_c (cal_checked_width_N T hN hT) hr (by decide) (by rfl) (pa_cons (fldK K rfl (pv 0) rfl) (pa_cons (pv 2) pa_nil))) rfl))), ?_⟩
    refine ⟨_, rfl, v, m, rfl, hm, hl, fun r hr => by rw [hrw r hr]; exact hw, fun t H1 s1 ht => ?_⟩
    have hp1 := s1 _ _ hp
    refine ⟨_, rfl, p, T.C_Grid, dx, [], rfl, hp1, T.cl_Grid, T.n_rows, by show 0 < 1000; decide, ?_⟩
    refine ⟨_, rfl, p, T.C_Grid, dx, _, t, rfl, upd_same, T.cl_Grid, T.n_rows, ?_, ?_⟩
    · rw [lookup_putF, if_pos rfl]
    have ht2 : TRows K (upd H1 p (.ins T.C_Grid dx (putF "rows" t []))) t m := trows_off hp1 Off.upd ht
    refine ⟨_, rfl, t, m, w, rfl, ht2, h0, hl, hrw, fun H2 s2 => ?_⟩
    have hp2 := s2 _ _ upd_same
    refine ⟨_, rfl, p, T.C_Grid, dx, _, rfl, hp2, T.cl_Grid, T.n_width, by show 1 < 1000; decide, ?_⟩
    refine q t _ (fun b o n e => ?_) upd_same (trows_off hp2 Off.upd (ht2.same s2))
    rw [upd_ne n]
    exact s2 _ _ (Off.upd _ _ n (s1 _ _ e))

end
end K44
namespace K44
open PySem PySem.Spec PyProof.Rows L2 Gm
open C8 (Cal Met Mak pe_c pe_mt pe_mt0 pe_mk)
section
variable {P : Program} {w : World} {K : PySem.W.Frag} {mg : Str → Option Value} {base : Heap}
/-- the state of the draws: two numbers, the first not negative -/
def StAt (H : Hp) (p : Addr) : Prop := ∃ s t : Int, H p = some (.lst [.int s, .int t]) ∧ 0 ≤ s
def sp_law_state (K : PySem.W.Frag) : Sp := fun vs H Q _ => ∃ (a : Addr) (ns : List Int), vs = [.ref a] ∧ SqL K H a (ns.map V.int) ∧ ns.length ≤ 63 ∧ ∀ p H', Same H H' → H p = none → StAt H' p → Q (.ref p) H'
theorem ok_law_state (T : Top K mg) (hN : base.NoSeer) (hT : P.given.tree = none) : FnOk P w K mg base CX0 1 T.a_law_state T.d_law_state ["script"] (sp_law_state K) := by
  refine T.F_law_state.ok sc_law_state (fun vs H Q E h => ?_) (fun cdv A outer s H vs Q E hr h => ?_)
  · obtain ⟨a, ns, rfl, _⟩ := h
    rfl
  · obtain ⟨a, ns, rfl, hs, hl, q⟩ := h
    refine ⟨_, (pss_cons (ps_set (i := 1) sc_law_state.nd rfl (by first | exact .inl rfl | exact .inr rfl) pe_int)
      (pss_cons (ps_set (i := 2) sc_law_state.nd rfl (by first | exact .inl rfl | exact .inr rfl) pe_int)
      (pss_cons (ps_for PassesOwn.never rfl (piS K rfl (pe_slice (slLK K rfl) (pv 0) po_none (po_some pe_int))) (pg_name (i := 3) sc_law_state.nd rfl (by first | exact .inl rfl | exact .inr rfl))
      (pss_cons (ps_set (i := 1) sc_law_state.nd rfl (by first | exact .inl rfl | exact .inr rfl) (pe_op op_add (pe_op op_mul (pv 1) pe_int) (pe_callB (call_abs) (by rfl) T.z_abs (by decide +kernel) (pa_cons (pv 3) pa_nil))))
      (pss_one (ps_set (i := 2) sc_law_state.nd rfl (by first | exact .inl rfl | exact .inr rfl) (pe_op op_mod (pe_callTy (call_int1) (by rfl) T.z_int (by decide +kernel) (pa_cons (pe_op op_add (pe_op op_mul (pv 2) pe_int) (pv 3)) pa_nil)) pe_int)))))
      (pss_one (ps_ret (pe_lst (pa_cons (pv 1) (pa_cons (pv 2) pa_nil)))))))), ?_⟩
    refine ⟨_, rfl, 63, rfl, a, _, rfl, hs, fun p np => ?_⟩
    have s1 : Same H (upd H p (.lst (cutV (ns.map V.int) none (some 63)))) := same_upd np
    have ec : cutV (ns.map V.int) none (some 63) = ns.map V.int := by
      rw [show (63 : Int) = ((63 : Nat) : Int) from rfl, cut_take, List.take_of_length_le (by rw [List.length_map]; exact hl)]
    rw [ec] at s1 ⊢
    refine ⟨p, _, rfl, .inl (.inl (.inl upd_same)), fun J G W hG => ?_⟩
    generalize hH1 : upd H p (.lst (ns.map V.int)) = H1 at s1 hG
    refine for_it W (fun i σ H2 => H2 = H1 ∧ ∃ s t y, σ = [some (.ref a), some (.int s), some (.int t), y] ∧ 0 ≤ s) ⟨rfl, 0, 1, none, rfl, Int.le_refl _⟩ (fun i σ H2 _ ⟨e, _⟩ => hG _ fun b _ o h => by rw [e]; exact h) ?_ ?_
    · rintro i x σ H2 H2' hi ⟨rfl, s, t, y, rfl, h0⟩ ⟨rfl, ex⟩
      obtain ⟨z, ez, rfl⟩ := ints_get ex
      refine ⟨_, rfl, _, _, rfl, rfl, .inr ⟨by decide, by decide⟩, _, rfl, z, rfl, _, _, rfl, rfl, ?_⟩
      refine ⟨_, rfl, _, _, rfl, rfl, .inr ⟨by decide, by decide⟩, _, rfl, _, _, rfl, rfl, .inl ⟨_, rfl, _, _, rfl, rfl, by show (0 : Int) < 2147483647; decide, ?_⟩⟩
      refine ⟨rfl, _, _, _, rfl, ?_⟩
      split <;> omega
    · rintro σ H2 ⟨rfl, s, t, y, rfl, h0⟩
      refine ⟨_, rfl, _, rfl, by show 2 ≤ sizeLine; decide, fun p2 np2 => ?_⟩
      exact q p2 _ (s1.trans (same_upd np2)) (Same.free s1 np2) ⟨s, t, upd_same, h0⟩
theorem cal_law_state (T : Top K mg) (hN : base.NoSeer) (hT : P.given.tree = none) : Cal P w K mg base 1 "_law_state" (sp_law_state K) [] := ⟨⟨_, _, _, [], ok_law_state T hN hT, T.g_law_state, T.F_law_state.kp, T.b_law_state, .nil⟩⟩
def sp_law_take : Sp := fun vs H Q _ => ∃ (p : Addr) (m : Nat), vs = [.ref p, .int m] ∧ StAt H p ∧ 0 < m ∧ m < 1000000 ∧ ∀ (r : Nat) H', r < m → Off p H H' → StAt H' p → Q (.int r) H'
theorem ok_law_take (T : Top K mg) (hN : base.NoSeer) (hT : P.given.tree = none) : FnOk P w K mg base CX0 1 T.a_law_take T.d_law_take ["state", "m"] sp_law_take := by
  refine T.F_law_take.ok sc_law_take (fun vs H Q E h => ?_) (fun cdv A outer s H vs Q E hr h => ?_)
  · obtain ⟨p, m, rfl, _⟩ := h
    rfl
  · obtain ⟨p, m, rfl, ⟨s0, t0, hp, h0⟩, hm0, hm1, q⟩ := h
    have hsq : SqL K H p [V.int s0, V.int t0] := .inl (.inl hp)
    refine ⟨_, (pss_cons (ps_if (pt_cmpR op_gt (pe_ix (ixL K rfl) (pv 0) pe_int (fun _ _ => rfl)) pe_int (nomark _))
      (pss_cons (ps_set (i := 2) sc_law_take.nd rfl (by first | exact .inl rfl | exact .inr rfl) (pe_op op_mod (pe_callTy (call_int1) (by rfl) T.z_int (by decide +kernel) (pa_cons (pe_ix (ixL K rfl) (pv 0) pe_int (fun _ _ => rfl)) pa_nil)) (pv 1)))
      (pss_cons (ps_asg (pe_op op_fdiv (pe_ix (ixL K rfl) (pv 0) pe_int (fun _ _ => rfl)) (pv 1)) (pg_sub (pv 0) pe_int set_list))
      (pss_one (ps_ret (pv 2)))))
      pss_nil)
      (pss_cons (ps_asg (pe_op op_mod (pe_callTy (call_int1) (by rfl) T.z_int (by decide +kernel) (pa_cons (pe_op op_add (pe_op op_mul (pe_ix (ixL K rfl) (pv 0) pe_int (fun _ _ => rfl)) pe_int) pe_int) pa_nil)) pe_int) (pg_sub (pv 0) pe_int set_list))
      (pss_one (ps_ret (pe_op op_mod (pe_callTy (call_int1) (by rfl) T.z_int (by decide +kernel) (pa_cons (pe_op op_fdiv (pe_ix (ixL K rfl) (pv 0) pe_int (fun _ _ => rfl)) pe_int) pa_nil)) (pv 1)))))), ?_⟩
    refine ⟨_, rfl, p, _, _, _, rfl, rfl, hsq, atI_nat (j := 0) rfl, _, _, rfl, rfl, _, rfl, ?_⟩
    have fin : ∀ x : Int, ∃ r : Nat, (r : Int) = x % (m : Int) ∧ r < m := fun x => by
      have h1 := Int.emod_nonneg x (b := (m : Int)) (by omega)
      have h2 := Int.emod_lt_of_pos x (b := (m : Int)) (by omega)
      exact ⟨(x % (m : Int)).toNat, by omega, by omega⟩
    by_cases hs : 0 < s0
    · rw [decide_eq_true hs]
      refine iteT ?_
      refine ⟨_, rfl, p, _, _, _, rfl, rfl, hsq, atI_nat (j := 0) rfl, .inl ⟨_, rfl, _, rfl, _, _, rfl, rfl, by omega, ?_⟩⟩
      refine ⟨_, rfl, p, _, _, _, rfl, rfl, hsq, atI_nat (j := 0) rfl, _, rfl, _, _, rfl, rfl, ⟨by omega, by omega⟩, _, rfl, p, _, _, 0, rfl, rfl, hp, ixN_nat (n := 2) (k := 0) (by decide), ?_⟩
      obtain ⟨r, er, hr2⟩ := fin s0
      refine ⟨_, rfl, ?_⟩
      show Q (.int (s0 % (m : Int))) _
      rw [← er]
      exact q r _ hr2 Off.upd ⟨_, t0, upd_same, Int.ediv_nonneg h0 (by omega)⟩
    · rw [decide_eq_false hs]
      refine iteF ?_
      refine ⟨_, rfl, p, _, _, _, rfl, rfl, hsq, atI_nat (j := 1) rfl, _, _, rfl, rfl, .inr ⟨by decide, by decide⟩, _, _, rfl, rfl, .inl ⟨_, rfl, _, _, rfl, rfl, by show (0 : Int) < 2147483647; decide, ?_⟩⟩
      refine ⟨_, rfl, p, _, _, 1, rfl, rfl, hp, ixN_nat (n := 2) (k := 1) (by decide), ?_⟩
      refine ⟨_, rfl, p, _, _, _, rfl, rfl, .inl (.inl upd_same), atI_nat (j := 1) rfl, _, _, rfl, rfl, ⟨by decide, by decide⟩, .inl ⟨_, rfl, _, rfl, _, _, rfl, rfl, by omega, ?_⟩⟩
      obtain ⟨r, er, hr2⟩ := fin ((t0 * 48271 + 11) % 2147483647 / 7)
      show Q (.int ((t0 * 48271 + 11) % 2147483647 / 7 % (m : Int))) _
      rw [← er]
      exact q r _ hr2 Off.upd ⟨s0, _, upd_same, h0⟩
theorem cal_law_take (T : Top K mg) (hN : base.NoSeer) (hT : P.given.tree = none) : Cal P w K mg base 1 "_law_take" sp_law_take [] := ⟨⟨_, _, _, [], ok_law_take T hN hT, T.g_law_take, T.F_law_take.kp, T.b_law_take, .nil⟩⟩

/-! ### _law_rows -/
def sp_law_rows (K : PySem.W.Frag) : Sp := fun vs H Q _ => ∃ (p : Addr) (h wd M : Nat), vs = [.ref p, .int h, .int wd, .int M] ∧ StAt H p ∧ h ≤ 100 ∧ wd ≤ 100 ∧ M ≤ 1000 ∧
  ∀ v m H', Off p H H' → StAt H' p → TRows K H' v m → m.length = h → (∀ r ∈ m, r.length = wd) → (∀ r ∈ m, ∀ x ∈ r, x.natAbs ≤ 2 * M) → Q v H'
def sp_law_product (K : PySem.W.Frag) : Sp := fun vs H Q _ => ∃ (va vb : V) (a b : List (List Int)) (wd B1 B2 : Nat), vs = [va, vb, .int wd] ∧ TRows K H va a ∧ TRows K H vb b ∧ a.length ≤ 1000 ∧ b.length ≤ 1000 ∧ wd ≤ 1000 ∧ (∀ r ∈ a, r.length = b.length) ∧ (∀ r ∈ b, r.length = wd) ∧
  (∀ r ∈ a, Bits B1 r) ∧ (∀ r ∈ b, Bits B2 r) ∧ B1 + B2 ≤ 134217728 ∧ ∀ v' H', Same H H' → TRows K H' v' (mulM a b wd) → Q v' H'
theorem ok_law_product (T : Top K mg) (hN : base.NoSeer) (hT : P.given.tree = none) : FnOk P w K mg base CX0 1 T.a_law_product T.d_law_product ["a", "b", "width"] (sp_law_product K) := by
  refine T.F_law_product.ok sc_law_product (fun vs H Q E h => ?_) (fun cdv A outer s H vs Q E hr h => ?_)
  · obtain ⟨va, vb, a, b, wd, B1, B2, rfl, _⟩ := h
    rfl
  · obtain ⟨va, vb, a, b, wd, B1, B2, rfl, ⟨pa, wa, rfl, ha, hpa⟩, ⟨pb, wb, rfl, hb, hpb⟩, la, lb, hwd, ra, rb, ba, bb, hB, q⟩ := h
    have lwa := Paired.length hpa
    have lwb := Paired.length hpb
    refine ⟨_, (pss_cons (ps_set (i := 3) sc_law_product.nd rfl (by first | exact .inl rfl | exact .inr rfl) (pe_lst pa_nil))
      (pss_cons (ps_for PassesOwn.never rfl (piT K rfl (pv 0)) (pg_name (i := 4) sc_law_product.nd rfl (by first | exact .inl rfl | exact .inr rfl))
      (pss_cons (ps_set (i := 5) sc_law_product.nd rfl (by first | exact .inl rfl | exact .inr rfl) (pe_lst pa_nil))
      (pss_cons (ps_for PassesOwn.never rfl (pi_range1 (by rfl) T.z_range (pa_cons (pv 2) pa_nil)) (pg_name (i := 6) sc_law_product.nd rfl (by first | exact .inl rfl | exact .inr rfl))
      (pss_cons (ps_set (i := 7) sc_law_product.nd rfl (by first | exact .inl rfl | exact .inr rfl) pe_int)
      (pss_cons (ps_for PassesOwn.never rfl (pi_range1 (by rfl) T.z_range (pa_cons (pe_callB (lenS K rfl) (by rfl) T.z_len (by decide +kernel) (pa_cons (pv 1) pa_nil)) pa_nil)) (pg_name (i := 8) sc_law_product.nd rfl (by first | exact .inl rfl | exact .inr rfl))
      (pss_one (ps_set (i := 7) sc_law_product.nd rfl (by first | exact .inl rfl | exact .inr rfl) (pe_op op_add (pv 7) (pe_op op_mulX (pe_ix (ixT K rfl) (pv 4) (pv 8) (fun _ _ => rfl)) (pe_ix (ixT K rfl) (pe_ix (ixT K rfl) (pv 1) (pv 8) (fun _ _ => rfl)) (pv 6) (fun _ _ => rfl)))))))
      (pss_one (ps_expr (pe_bm PySem.F.plainAttrs_list PySem.F.slot_list_append PySem.F.type_list_append mt_append (pv 5) (pa_cons (pv 7) pa_nil)))))))
      (pss_one (ps_expr (pe_bm PySem.F.plainAttrs_list PySem.F.slot_list_append PySem.F.type_list_append mt_append (pv 3) (pa_cons (pe_callTy (tupK K rfl) (by rfl) T.z_tuple (by decide +kernel) (pa_cons (pv 5) pa_nil)) pa_nil)))))))
      (pss_one (ps_ret (pe_callTy (tupK K rfl) (by rfl) T.z_tuple (by decide +kernel) (pa_cons (pv 3) pa_nil)))))), ?_⟩
    -- out = []
    refine ⟨by show 0 ≤ sizeLine; decide, fun R nR => ?_⟩
    have s0 : Same H (upd H R (.lst [])) := same_upd nR
    refine ⟨_, rfl, pa, rfl, ⟨wa, Same.seqT s0 ha⟩, ?_⟩
    generalize hH0 : upd H R (.lst []) = H0 at s0
    have eR0 : H0 R = some (.lst []) := by rw [← hH0, upd_same]
    refine for_it (walk_tup (xs := wa)) (fun i σ H2 => ∃ y4 y5 y6 y7 y8, σ = [some (.ref pa), some (.ref pb), some (.int wd), some (.ref R), y4, y5, y6, y7, y8] ∧ Same H H2 ∧ ∃ l, H2 R = some (.lst l) ∧ Paired (TRow K H2) l ((mulM a b wd).take i)) ⟨_, _, _, _, _, rfl, s0, [], eR0, .nil⟩ (fun i σ H2 _ ⟨_, _, _, _, _, _, s2, _⟩ => Same.seqT s2 ha) ?_ ?_
    · rintro i x σ H2 H2' hi ⟨y4, y5, y6, y7, y8, rfl, s2, l, eR, hl⟩ ⟨rfl, ex⟩
      obtain ⟨r, er, pr, rfl, hpr⟩ := Paired.getR hpa ex
      have hrm := List.mem_of_getElem? er
      have hrl := ra r hrm
      have eg : (mulM a b wd)[i]? = some ((transp b wd).map fun c => dotI r c) := by
        unfold mulM
        rw [List.getElem?_map, er]
        rfl
      have hll := Paired.length hl
      rw [List.length_take] at hll
      -- line = []
      refine ⟨by show 0 ≤ sizeLine; decide, fun L nL => ?_⟩
      have s3 : Same H2' (upd H2' L (.lst [])) := same_upd nL
      -- for k in range(width)
      refine ⟨_, rfl, (wd : Int), rfl, by omega, by omega, ?_⟩
      refine for_it walk_range (fun k σ H3 => ∃ y6 y7 y8, σ = [some (.ref pa), some (.ref pb), some (.int wd), some (.ref R), some (.ref pr), some (.ref L), y6, y7, y8] ∧ Same H2' H3 ∧ H3 L = some (.lst ((((transp b wd).map fun c => dotI r c).take k).map V.int))) ⟨_, _, _, rfl, s3, by rw [upd_same]; rfl⟩ (fun _ _ _ _ _ => trivial) ?_ ?_
      · rintro k x σ H3 H3' hk ⟨y6, y7, y8, rfl, s4, eL⟩ ⟨rfl, rfl⟩
        have hk' : k < wd := by omega
        have sb := s2.trans s4
        -- for j in range(len(b))
        refine ⟨_, rfl, pb, _, rfl, .inr (Same.seqT sb hb), _, rfl, by omega, by omega, ?_⟩
        refine for_it walk_range (fun j σ H4 => ∃ y8, σ = [some (.ref pa), some (.ref pb), some (.int wd), some (.ref R), some (.ref pr), some (.ref L), some (.int (0 + (k : Int))), some (.int ((List.zipWith (· * ·) r (b.map fun r => r.getD k 0)).take j).sum), y8] ∧ H4 = H3') ⟨_, rfl, rfl⟩ (fun _ _ _ _ _ => trivial) ?_ ?_
        · rintro j x σ H4 H4' hj ⟨y8, rfl, rfl⟩ ⟨rfl, rfl⟩
          have hj' : j < b.length := by omega
          have hjr : j < r.length := by omega
          obtain ⟨vb, evb, qb, rfl, hqb⟩ := Paired.getR (Paired.swap hpb) (List.getElem?_eq_getElem hj')
          have hbl := rb _ (List.getElem_mem hj')
          have hkb : k < (b[j]).length := by omega
          refine ⟨_, rfl, _, rfl, _, rfl, pr, _, _, _, rfl, rfl, Same.seqT sb hpr, at_of (j := j) (by omega) (ints_at (List.getElem?_eq_getElem hjr)), ?_⟩
          refine ⟨_, rfl, _, rfl, pb, wb, _, _, rfl, rfl, Same.seqT sb hb, at_of (j := j) (by omega) evb, _, rfl, qb, _, _, _, rfl, rfl, Same.seqT sb hqb, at_of (j := k) (by omega) (ints_at (List.getElem?_eq_getElem hkb)), ?_⟩
          refine ⟨_, _, rfl, rfl, mulx_ok (ba r hrm _ (List.getElem_mem hjr)) (bb _ (List.getElem_mem hj') _ (List.getElem_mem hkb)) hB, _, _, rfl, rfl, ?_⟩
          refine ⟨some (.int (0 + (j : Int))), ?_, rfl⟩
          have ez : (List.zipWith (· * ·) r (b.map fun r => r.getD k 0))[j]? = some (r[j] * (b[j])[k]) := by
            rw [List.getElem?_zipWith, List.getElem?_eq_getElem hjr, List.getElem?_map, List.getElem?_eq_getElem hj']
            show some (r[j] * (b[j]).getD k 0) = _
            rw [List.getD_eq_getElem?_getD, List.getElem?_eq_getElem hkb]
            rfl
          rw [sum_take ez]
          rfl
        · rintro σ H4 ⟨y8, rfl, rfl⟩
          -- line.append(total)
          refine ⟨_, rfl, .inl ⟨rfl, _, .inl (.inl eL)⟩, _, rfl, L, _, _, rfl, rfl, eL, small1000 (by rw [List.length_map, List.length_take, List.length_map, transp_len]; omega), ?_⟩
          refine ⟨_, _, _, rfl, fun c o h => ?_, ?_⟩
          · rw [upd_ne (ne_of_none h nL)]
            exact s4 _ _ h
          · rw [upd_same, List.take_of_length_le (l := List.zipWith (· * ·) r (b.map fun r => r.getD k 0)) (by rw [List.length_zipWith, List.length_map]; omega)]
            have ec : ((transp b wd).map fun c => dotI r c)[k]? = some (dotI r (b.map fun r => r.getD k 0)) := by
              unfold transp
              rw [List.getElem?_map, List.getElem?_map, List.getElem?_range hk']
              rfl
            rw [List.take_add_one, ec, List.map_append]
            rfl
      · rintro σ H3 ⟨y6, y7, y8, rfl, s4, eL⟩
        rw [List.take_of_length_le (by rw [List.length_map, transp_len]; omega)] at eL
        -- out.append(tuple(line))
        have eR3 := s4 _ _ eR
        refine ⟨_, rfl, .inl ⟨rfl, _, .inl (.inl eR3)⟩, _, rfl, L, _, rfl, .inl ⟨.inl (.inl eL), fun t nt => ?_⟩⟩
        have st := same_upd (o := .tup (((transp b wd).map fun c => dotI r c).map V.int)) nt
        have eR4 := st _ _ eR3
        refine ⟨R, l, _, rfl, rfl, eR4, small1000 (by omega), ?_⟩
        have htR : t ≠ R := by
          rintro rfl
          rw [eR3] at nt
          cases nt
        refine ⟨_, _, _, _, _, rfl, fun c o h => ?_, l ++ [.ref t], upd_same, ?_⟩
        · rw [upd_ne (ne_of_none h nR)]
          exact st _ _ (s4 _ _ (s2 _ _ h))
        · rw [List.take_add_one, eg]
          refine Paired.snoc (L2.Paired.mapP hl fun _ _ r => TRow.off eR4 Off.upd (TRow.same st (TRow.same s4 r))) ⟨t, rfl, .inl (.inl ?_)⟩
          rw [upd_ne htR, upd_same]
    · rintro σ H2 ⟨y4, y5, y6, y7, y8, rfl, s2, l, eR, hl⟩
      refine ⟨_, rfl, R, l, rfl, .inl ⟨.inl (.inl eR), fun t nt => ?_⟩⟩
      refine q _ _ (s2.trans (same_upd nt)) ⟨t, l, rfl, .inl (.inl upd_same), ?_⟩
      rw [List.take_of_length_le (by rw [mulM_len]; omega)] at hl
      exact L2.Paired.mapP hl fun _ _ => TRow.same (same_upd nt)
theorem cal_law_product (T : Top K mg) (hN : base.NoSeer) (hT : P.given.tree = none) : Cal P w K mg base 1 "_law_product" (sp_law_product K) [] := ⟨⟨_, _, _, [], ok_law_product T hN hT, T.g_law_product, T.F_law_product.kp, T.b_law_product, .nil⟩⟩
/-! ### _law_is_rows -/
def sp_law_is_rows (K : PySem.W.Frag) (C : Addr) : Sp := fun vs H Q _ => ∃ (v : V) (m : List (List Int)) (n wd : Nat), vs = [v, .int n, .int wd] ∧ IsGrid K C H v m wd ∧ m.length = n ∧ n ≤ 1000 ∧ Q (.bl true) H

end
end K44
namespace K44
open PySem PySem.Spec PyProof.Rows L2 Gm
open C8 (Cal Met Mak pe_c pe_mt pe_mt0 pe_mk)
section
variable {P : Program} {w : World} {K : PySem.W.Frag} {mg : Str → Option Value} {base : Heap}
/-! ### _law_determinant -/
def SRows (K : PySem.W.Frag) (H : Hp) (v : V) (m : List (List Int)) : Prop := ∃ a ws, v = .ref a ∧ Gm.Seq K H a ws ∧ Paired (TRow K H) ws m
def detT (n : Nat) (f : List (List Int) → Int) (m : List (List Int)) (k : Nat) : Int := (1 - 2 * ((k : Int) % 2)) * (m.headD []).getD k 0 * f (m.tail.map fun r => r.eraseIdx k)
/-- the law's determinant, by the first row -/
def detL : Nat → List (List Int) → Int
  | 0, _ => 1
  | n + 1, m => ((List.range (n + 1)).map (detT n (detL n) m)).sum
theorem sq_tail {n B : Nat} {m : List (List Int)} (h : Sq (n + 1) B m) {k : Nat} (hk : k < n + 1) : Sq n B (m.tail.map fun r => r.eraseIdx k) := by
  refine ⟨by rw [List.length_map, List.length_tail, h.len]; rfl, fun r hr => ?_, fun r hr => ?_⟩
  · obtain ⟨r', hr', rfl⟩ := List.mem_map.mp hr
    have := h.row r' (List.mem_of_mem_tail hr')
    rw [List.length_eraseIdx_of_lt (by omega), this]
    rfl
  · obtain ⟨r', hr', rfl⟩ := List.mem_map.mp hr
    exact fun x hx => h.bits r' (List.mem_of_mem_tail hr') x (List.mem_of_mem_eraseIdx hx)
theorem sum_le {b : Nat} : ∀ {l : List Int}, (∀ x ∈ l, x.natAbs ≤ b) → l.sum.natAbs ≤ l.length * b
  | [], _ => by simp
  | x :: l, h => by
    have h1 := h x (List.mem_cons_self ..)
    have h2 := sum_le fun y hy => h y (List.mem_cons_of_mem _ hy)
    rw [List.sum_cons, List.length_cons, Nat.succ_mul]
    omega
theorem detT_le {n B c : Nat} {f : List (List Int) → Int} {m : List (List Int)} (h : Sq (n + 1) B m) {k : Nat} (hk : k < n + 1) (hf : (f (m.tail.map fun r => r.eraseIdx k)).natAbs < 2 ^ c) : (detT n f m k).natAbs ≤ 2 ^ B * 2 ^ c := by
  have h0 : ((m.headD []).getD k 0).natAbs < 2 ^ B := by
    cases m with
    | nil => exact absurd h.len (by simp)
    | cons r m =>
      have hr := h.row r (List.mem_cons_self ..)
      have hk' : k < r.length := by omega
      show (r.getD k 0).natAbs < 2 ^ B
      rw [List.getD_eq_getElem?_getD, List.getElem?_eq_getElem hk']
      exact h.bits r (List.mem_cons_self ..) _ (List.getElem_mem hk')
  have h1 : (1 - 2 * ((k : Int) % 2)).natAbs = 1 := by omega
  unfold detT
  rw [Int.natAbs_mul, Int.natAbs_mul, h1, Nat.one_mul]
  exact Nat.mul_le_mul (Nat.le_of_lt h0) (Nat.le_of_lt hf)
theorem detL_le {B : Nat} : ∀ {n : Nat} {m : List (List Int)}, n ≤ 10 → Sq n B m → (detL n m).natAbs < 2 ^ (n * (B + 8) + 1)
  | 0, m, _, _ => by
    show (1 : Int).natAbs < 2 ^ (0 * (B + 8) + 1)
    rw [Nat.zero_mul]
    decide
  | n + 1, m, hn, h => by
    have hs : (detL (n + 1) m).natAbs ≤ ((List.range (n + 1)).map (detT n (detL n) m)).length * (2 ^ B * 2 ^ (n * (B + 8) + 1)) := by
      refine sum_le fun x hx => ?_
      obtain ⟨k, hk, rfl⟩ := List.mem_map.mp hx
      have hk' := List.mem_range.mp hk
      exact detT_le h hk' (detL_le (by omega) (sq_tail h hk'))
    rw [List.length_map, List.length_range, ← Nat.pow_add] at hs
    have h2 : n + 1 < 2 ^ 8 := by have : (2 : Nat) ^ 8 = 256 := rfl; omega
    have h3 : (n + 1) * 2 ^ (B + (n * (B + 8) + 1)) < 2 ^ 8 * 2 ^ (B + (n * (B + 8) + 1)) := (Nat.mul_lt_mul_right (Nat.two_pow_pos _)).mpr h2
    rw [← Nat.pow_add] at h3
    have e : 8 + (B + (n * (B + 8) + 1)) = (n + 1) * (B + 8) + 1 := by rw [Nat.succ_mul]; omega
    rw [e] at h3
    omega
def sp_det (K : PySem.W.Frag) (n : Nat) : Sp := fun vs H Q _ => ∃ v m B, vs = [v] ∧ SRows K H v m ∧ Sq n B m ∧ B ≤ 1200000 ∧ ∀ H', Same H H' → Q (.int (detL n m)) H'
def sp_law_determinant (K : PySem.W.Frag) : Sp := fun vs H Q E => ∃ n, n ≤ 8 ∧ sp_det K n vs H Q E

end
end K44
namespace K44
open PySem PySem.Spec PyProof.Rows L2 Gm
open C8 (Cal Met Mak pe_c pe_mt pe_mt0 pe_mk)
section
variable {P : Program} {w : World} {K : PySem.W.Frag} {mg : Str → Option Value} {base : Heap}
/-! ### the determinant up to size 4 -/
theorem row1 {r : List Int} (h : r.length = 1) : ∃ a, r = [a] := by
  match r, h with
  | [a], _ => exact ⟨a, rfl⟩
theorem row2 {r : List Int} (h : r.length = 2) : ∃ a b, r = [a, b] := by
  match r, h with
  | [a, b], _ => exact ⟨a, b, rfl⟩
theorem row3 {r : List Int} (h : r.length = 3) : ∃ a b c, r = [a, b, c] := by
  match r, h with
  | [a, b, c], _ => exact ⟨a, b, c, rfl⟩
theorem row4 {r : List Int} (h : r.length = 4) : ∃ a b c d, r = [a, b, c, d] := by
  match r, h with
  | [a, b, c, d], _ => exact ⟨a, b, c, d, rfl⟩
/-- a square matrix -/
structure Sz (n : Nat) (m : List (List Int)) : Prop where
  len : m.length = n
  row : ∀ r ∈ m, r.length = n
theorem Sq.sz {n B : Nat} {m : List (List Int)} (h : Sq n B m) : Sz n m := ⟨h.len, h.row⟩
theorem sz1 {m : List (List Int)} (h : Sz 1 m) : ∃ a, m = [[a]] := by
  obtain ⟨h1, h2⟩ := h
  match m, h1, h2 with
  | [r], _, h2 =>
    obtain ⟨a, rfl⟩ := row1 (h2 r (by simp))
    exact ⟨a, rfl⟩
theorem sz2 {m : List (List Int)} (h : Sz 2 m) : ∃ a b c d, m = [[a, b], [c, d]] := by
  obtain ⟨h1, h2⟩ := h
  match m, h1, h2 with
  | [r, t], _, h2 =>
    obtain ⟨a, b, rfl⟩ := row2 (h2 r (by simp))
    obtain ⟨c, d, rfl⟩ := row2 (h2 t (by simp))
    exact ⟨a, b, c, d, rfl⟩
theorem sz3 {m : List (List Int)} (h : Sz 3 m) : ∃ a b c d e f g k l, m = [[a, b, c], [d, e, f], [g, k, l]] := by
  obtain ⟨h1, h2⟩ := h
  match m, h1, h2 with
  | [r, t, u], _, h2 =>
    obtain ⟨a, b, c, rfl⟩ := row3 (h2 r (by simp))
    obtain ⟨d, e, f, rfl⟩ := row3 (h2 t (by simp))
    obtain ⟨g, k, l, rfl⟩ := row3 (h2 u (by simp))
    exact ⟨a, b, c, d, e, f, g, k, l, rfl⟩
theorem sz4 {m : List (List Int)} (h : Sz 4 m) : ∃ a b c d e f g k l o p q r s t u, m = [[a, b, c, d], [e, f, g, k], [l, o, p, q], [r, s, t, u]] := by
  obtain ⟨h1, h2⟩ := h
  match m, h1, h2 with
  | [r1, r2, r3, r4], _, h2 =>
    obtain ⟨a, b, c, d, rfl⟩ := row4 (h2 r1 (by simp))
    obtain ⟨e, f, g, k, rfl⟩ := row4 (h2 r2 (by simp))
    obtain ⟨l, o, p, q, rfl⟩ := row4 (h2 r3 (by simp))
    obtain ⟨r, s, t, u, rfl⟩ := row4 (h2 r4 (by simp))
    exact ⟨a, b, c, d, e, f, g, k, l, o, p, q, r, s, t, u, rfl⟩
def D2 (a b c d : Int) : Int := a * d - b * c
def D3 (a b c d e f g k l : Int) : Int := a * D2 e f k l - b * D2 d f g l + c * D2 d e g k
def D4 (a b c d e f g k l o p q r s t u : Int) : Int := a * D3 f g k o p q s t u - b * D3 e g k l p q r t u + c * D3 e f k l o q r s u - d * D3 e f g l o p r s t
theorem detL1 (a : Int) : detL 1 [[a]] = a := by
  show (1 - 2 * ((0 : Int) % 2)) * a * 1 + 0 = a
  grind
theorem detL2 (a b c d : Int) : detL 2 [[a, b], [c, d]] = D2 a b c d := by
  show (1 - 2 * ((0 : Int) % 2)) * a * detL 1 [[d]] + ((1 - 2 * ((1 : Int) % 2)) * b * detL 1 [[c]] + 0) = a * d - b * c
  rw [detL1, detL1]
  grind
theorem detL3 (a b c d e f g k l : Int) : detL 3 [[a, b, c], [d, e, f], [g, k, l]] = D3 a b c d e f g k l := by
  show (1 - 2 * ((0 : Int) % 2)) * a * detL 2 [[e, f], [k, l]] + ((1 - 2 * ((1 : Int) % 2)) * b * detL 2 [[d, f], [g, l]] + ((1 - 2 * ((2 : Int) % 2)) * c * detL 2 [[d, e], [g, k]] + 0)) = a * D2 e f k l - b * D2 d f g l + c * D2 d e g k
  rw [detL2, detL2, detL2]
  grind
theorem detL4 (a b c d e f g k l o p q r s t u : Int) : detL 4 [[a, b, c, d], [e, f, g, k], [l, o, p, q], [r, s, t, u]] = D4 a b c d e f g k l o p q r s t u := by
  show (1 - 2 * ((0 : Int) % 2)) * a * detL 3 [[f, g, k], [o, p, q], [s, t, u]] + ((1 - 2 * ((1 : Int) % 2)) * b * detL 3 [[e, g, k], [l, p, q], [r, t, u]] + ((1 - 2 * ((2 : Int) % 2)) * c * detL 3 [[e, f, k], [l, o, q], [r, s, u]] + ((1 - 2 * ((3 : Int) % 2)) * d * detL 3 [[e, f, g], [l, o, p], [r, s, t]] + 0))) = a * D3 f g k o p q s t u - b * D3 e g k l p q r t u + c * D3 e f k l o q r s u - d * D3 e f g l o p r s t
  rw [detL3, detL3, detL3, detL3]
  generalize D3 f g k o p q s t u = A
  generalize D3 e g k l p q r t u = B
  generalize D3 e f k l o q r s u = C
  generalize D3 e f g l o p r s t = D
  grind
theorem fdiv_of {x l D : Int} (hl : l ≠ 0) (h : x = l * D) : x.fdiv l = D := by
  rw [h]
  exact Int.mul_fdiv_cancel_left D hl
/-! #### the elimination -/
theorem bare1 (s l x : Int) : bare 1 s l [[x]] = s * x := by
  by_cases h : x = 0
  · subst h
    show (0 : Int) = s * 0
    rw [Int.mul_zero]
  · have e : bare 1 s l [[x]] = match (if x ≠ 0 then some 0 else none) with
      | none => 0
      | some k => bare 0 (if k % 2 = 1 then -s else s) ((([[x]] : List (List Int)).getD k []).headD 0) (((([[x]] : List (List Int)).eraseIdx k)).map fun r => clr ((([[x]] : List (List Int))).getD k []) r l) := rfl
    rw [e, if_pos h]
    rfl
theorem bare2 (s l a b c d D : Int) (hl : l ≠ 0) (h : D2 a b c d = l * D) : bare 2 s l [[a, b], [c, d]] = s * D := by
  have e : bare 2 s l [[a, b], [c, d]] = match (if a ≠ 0 then some 0 else if c ≠ 0 then some 1 else none) with
      | none => 0
      | some k => bare 1 (if k % 2 = 1 then -s else s) ((([[a, b], [c, d]] : List (List Int)).getD k []).headD 0) (((([[a, b], [c, d]] : List (List Int)).eraseIdx k)).map fun r => clr ((([[a, b], [c, d]] : List (List Int))).getD k []) r l) := rfl
  unfold D2 at h
  rw [e]
  by_cases ha : a = 0
  · rw [if_neg (fun z => z ha)]
    by_cases hc : c = 0
    · rw [if_neg (fun z => z hc)]
      have : l * D = 0 := by rw [← h, ha, hc]; grind
      rcases Int.mul_eq_zero.mp this with z | z
      · exact absurd z hl
      · rw [z, Int.mul_zero]
    · rw [if_pos hc]
      show bare 1 (-s) c [[(c * b - a * d).fdiv l]] = s * D
      rw [fdiv_of hl (show c * b - a * d = l * (-D) by grind), bare1]
      grind
  · rw [if_pos ha]
    show bare 1 s a [[(a * d - c * b).fdiv l]] = s * D
    rw [fdiv_of hl (show a * d - c * b = l * D by grind), bare1]

end
end K44
namespace K44
open PySem PySem.Spec PyProof.Rows L2 Gm
open C8 (Cal Met Mak pe_c pe_mt pe_mt0 pe_mk)
section
variable {P : Program} {w : World} {K : PySem.W.Frag} {mg : Str → Option Value} {base : Heap}
theorem chio3 (a b c d e f g k x : Int) : D2 (a * e - d * b) (a * f - d * c) (a * k - g * b) (a * x - g * c) = a * D3 a b c d e f g k x := by
  unfold D3 D2
  grind
theorem D3_swap1 (a b c d e f g k x : Int) : D3 d e f a b c g k x = -D3 a b c d e f g k x := by
  unfold D3 D2
  grind
theorem D3_swap2 (a b c d e f g k x : Int) : D3 g k x a b c d e f = D3 a b c d e f g k x := by
  unfold D3 D2
  grind
theorem D3_zero (b c e f k x : Int) : D3 0 b c 0 e f 0 k x = 0 := by
  unfold D3 D2
  grind
theorem cancel2 {l x y : Int} (hl : l ≠ 0) (h : l * l * x = l * l * y) : x = y :=
  Int.eq_of_mul_eq_mul_left (Int.mul_ne_zero hl hl) h
theorem can3 {l a D Z p1 p2 p3 p4 : Int} (hl : l ≠ 0) (t : D2 (l * p1) (l * p2) (l * p3) (l * p4) = a * Z) (hz : Z = l * l * D) : D2 p1 p2 p3 p4 = a * D := by
  refine cancel2 hl ?_
  rw [hz] at t
  unfold D2 at t ⊢
  grind
theorem bare3 (s l a b c d e f g k x D q1 q2 q3 q4 q5 q6 : Int) (hl : l ≠ 0) (h1 : D2 a b d e = l * q1) (h2 : D2 a c d f = l * q2) (h3 : D2 a b g k = l * q3) (h4 : D2 a c g x = l * q4) (h5 : D2 d e g k = l * q5) (h6 : D2 d f g x = l * q6) (h : D3 a b c d e f g k x = l * l * D) :
    bare 3 s l [[a, b, c], [d, e, f], [g, k, x]] = s * D := by
  have eb : bare 3 s l [[a, b, c], [d, e, f], [g, k, x]] = match (if a ≠ 0 then some 0 else if d ≠ 0 then some 1 else if g ≠ 0 then some 2 else none) with
      | none => 0
      | some k' => bare 2 (if k' % 2 = 1 then -s else s) ((([[a, b, c], [d, e, f], [g, k, x]] : List (List Int)).getD k' []).headD 0) (((([[a, b, c], [d, e, f], [g, k, x]] : List (List Int)).eraseIdx k')).map fun r => clr ((([[a, b, c], [d, e, f], [g, k, x]] : List (List Int))).getD k' []) r l) := rfl
  rw [eb]
  unfold D2 at h1 h2 h3 h4 h5 h6
  by_cases ha : a = 0
  · rw [if_neg (fun z => z ha)]
    by_cases hd : d = 0
    · rw [if_neg (fun z => z hd)]
      by_cases hg : g = 0
      · rw [if_neg (fun z => z hg)]
        rw [ha, hd, hg, D3_zero] at h
        have z : D = 0 := cancel2 hl (by rw [← h, Int.mul_zero])
        rw [z, Int.mul_zero]
      · rw [if_pos hg]
        show bare 2 s g [[(g * b - a * k).fdiv l, (g * c - a * x).fdiv l], [(g * e - d * k).fdiv l, (g * f - d * x).fdiv l]] = s * D
        have f1 : g * b - a * k = l * (-q3) := by grind
        have f2 : g * c - a * x = l * (-q4) := by grind
        have f3 : g * e - d * k = l * (-q5) := by grind
        have f4 : g * f - d * x = l * (-q6) := by grind
        rw [fdiv_of hl f1, fdiv_of hl f2, fdiv_of hl f3, fdiv_of hl f4]
        refine bare2 s g _ _ _ _ D hg (can3 hl (Z := l * l * D) ?_ rfl)
        have t := chio3 g k x a b c d e f
        rw [D3_swap2, h, f1, f2, f3, f4] at t
        exact t
    · rw [if_pos hd]
      show bare 2 (-s) d [[(d * b - a * e).fdiv l, (d * c - a * f).fdiv l], [(d * k - g * e).fdiv l, (d * x - g * f).fdiv l]] = s * D
      have f1 : d * b - a * e = l * (-q1) := by grind
      have f2 : d * c - a * f = l * (-q2) := by grind
      have f3 : d * k - g * e = l * q5 := by grind
      have f4 : d * x - g * f = l * q6 := by grind
      rw [fdiv_of hl f1, fdiv_of hl f2, fdiv_of hl f3, fdiv_of hl f4]
      rw [show s * D = -s * (-D) by grind]
      refine bare2 (-s) d _ _ _ _ (-D) hd (can3 hl (Z := -(l * l * D)) ?_ (by rw [Int.mul_neg]))
      have t := chio3 d e f a b c g k x
      rw [D3_swap1, h, f1, f2, f3, f4] at t
      exact t
  · rw [if_pos ha]
    show bare 2 s a [[(a * e - d * b).fdiv l, (a * f - d * c).fdiv l], [(a * k - g * b).fdiv l, (a * x - g * c).fdiv l]] = s * D
    have f1 : a * e - d * b = l * q1 := by grind
    have f2 : a * f - d * c = l * q2 := by grind
    have f3 : a * k - g * b = l * q3 := by grind
    have f4 : a * x - g * c = l * q4 := by grind
    rw [fdiv_of hl f1, fdiv_of hl f2, fdiv_of hl f3, fdiv_of hl f4]
    refine bare2 s a _ _ _ _ D ha (can3 hl (Z := l * l * D) ?_ rfl)
    have t := chio3 a b c d e f g k x
    rw [h, f1, f2, f3, f4] at t
    exact t
/-! size 4 -/
theorem chio4 (t0 t1 t2 t3 u0 u1 u2 u3 v0 v1 v2 v3 w0 w1 w2 w3 : Int) :
    D3 (t0 * u1 - u0 * t1) (t0 * u2 - u0 * t2) (t0 * u3 - u0 * t3) (t0 * v1 - v0 * t1) (t0 * v2 - v0 * t2) (t0 * v3 - v0 * t3) (t0 * w1 - w0 * t1) (t0 * w2 - w0 * t2) (t0 * w3 - w0 * t3) =
      t0 * t0 * D4 t0 t1 t2 t3 u0 u1 u2 u3 v0 v1 v2 v3 w0 w1 w2 w3 := by
  unfold D4 D3 D2
  grind
theorem D4_at1 (t0 t1 t2 t3 u0 u1 u2 u3 v0 v1 v2 v3 w0 w1 w2 w3 : Int) : D4 u0 u1 u2 u3 t0 t1 t2 t3 v0 v1 v2 v3 w0 w1 w2 w3 = -D4 t0 t1 t2 t3 u0 u1 u2 u3 v0 v1 v2 v3 w0 w1 w2 w3 := by
  unfold D4 D3 D2
  grind
theorem D4_at2 (t0 t1 t2 t3 u0 u1 u2 u3 v0 v1 v2 v3 w0 w1 w2 w3 : Int) : D4 v0 v1 v2 v3 t0 t1 t2 t3 u0 u1 u2 u3 w0 w1 w2 w3 = D4 t0 t1 t2 t3 u0 u1 u2 u3 v0 v1 v2 v3 w0 w1 w2 w3 := by
  unfold D4 D3 D2
  grind
theorem D4_at3 (t0 t1 t2 t3 u0 u1 u2 u3 v0 v1 v2 v3 w0 w1 w2 w3 : Int) : D4 w0 w1 w2 w3 t0 t1 t2 t3 u0 u1 u2 u3 v0 v1 v2 v3 = -D4 t0 t1 t2 t3 u0 u1 u2 u3 v0 v1 v2 v3 w0 w1 w2 w3 := by
  unfold D4 D3 D2
  grind
theorem D4_zero (t1 t2 t3 u1 u2 u3 v1 v2 v3 w1 w2 w3 : Int) : D4 0 t1 t2 t3 0 u1 u2 u3 0 v1 v2 v3 0 w1 w2 w3 = 0 := by
  unfold D4 D3 D2
  grind
/-- after one step, with the pivot row t -/
theorem bare4p (s t0 t1 t2 t3 u0 u1 u2 u3 v0 v1 v2 v3 w0 w1 w2 w3 D : Int) (h0 : t0 ≠ 0) (h : D4 t0 t1 t2 t3 u0 u1 u2 u3 v0 v1 v2 v3 w0 w1 w2 w3 = D) :
    bare 3 s t0 [[(t0 * u1 - u0 * t1).fdiv 1, (t0 * u2 - u0 * t2).fdiv 1, (t0 * u3 - u0 * t3).fdiv 1], [(t0 * v1 - v0 * t1).fdiv 1, (t0 * v2 - v0 * t2).fdiv 1, (t0 * v3 - v0 * t3).fdiv 1], [(t0 * w1 - w0 * t1).fdiv 1, (t0 * w2 - w0 * t2).fdiv 1, (t0 * w3 - w0 * t3).fdiv 1]] = s * D := by
  have f : ∀ x : Int, x.fdiv 1 = x := fun x => fdiv_of (by decide) (by rw [Int.one_mul])
  simp only [f]
  refine bare3 s t0 _ _ _ _ _ _ _ _ _ D (D3 t0 t1 t2 u0 u1 u2 v0 v1 v2) (D3 t0 t1 t3 u0 u1 u3 v0 v1 v3) (D3 t0 t1 t2 u0 u1 u2 w0 w1 w2) (D3 t0 t1 t3 u0 u1 u3 w0 w1 w3) (D3 t0 t1 t2 v0 v1 v2 w0 w1 w2) (D3 t0 t1 t3 v0 v1 v3 w0 w1 w3) h0 ?_ ?_ ?_ ?_ ?_ ?_ ?_
  · exact chio3 ..
  · exact chio3 ..
  · exact chio3 ..
  · exact chio3 ..
  · exact chio3 ..
  · exact chio3 ..
  · rw [chio4, h]
theorem bare4 (s t0 t1 t2 t3 u0 u1 u2 u3 v0 v1 v2 v3 w0 w1 w2 w3 : Int) :
    bare 4 s 1 [[t0, t1, t2, t3], [u0, u1, u2, u3], [v0, v1, v2, v3], [w0, w1, w2, w3]] = s * D4 t0 t1 t2 t3 u0 u1 u2 u3 v0 v1 v2 v3 w0 w1 w2 w3 := by
  have eb : bare 4 s 1 [[t0, t1, t2, t3], [u0, u1, u2, u3], [v0, v1, v2, v3], [w0, w1, w2, w3]] = match (if t0 ≠ 0 then some 0 else if u0 ≠ 0 then some 1 else if v0 ≠ 0 then some 2 else if w0 ≠ 0 then some 3 else none) with
      | none => 0
      | some k' => bare 3 (if k' % 2 = 1 then -s else s) ((([[t0, t1, t2, t3], [u0, u1, u2, u3], [v0, v1, v2, v3], [w0, w1, w2, w3]] : List (List Int)).getD k' []).headD 0) (((([[t0, t1, t2, t3], [u0, u1, u2, u3], [v0, v1, v2, v3], [w0, w1, w2, w3]] : List (List Int)).eraseIdx k')).map fun r => clr ((([[t0, t1, t2, t3], [u0, u1, u2, u3], [v0, v1, v2, v3], [w0, w1, w2, w3]] : List (List Int))).getD k' []) r 1) := rfl
  rw [eb]
  by_cases ht : t0 = 0
  · rw [if_neg (fun z => z ht)]
    by_cases hu : u0 = 0
    · rw [if_neg (fun z => z hu)]
      by_cases hv : v0 = 0
      · rw [if_neg (fun z => z hv)]
        by_cases hw : w0 = 0
        · rw [if_neg (fun z => z hw), ht, hu, hv, hw, D4_zero, Int.mul_zero]
        · rw [if_pos hw]
          refine (bare4p (-s) w0 w1 w2 w3 t0 t1 t2 t3 u0 u1 u2 u3 v0 v1 v2 v3 _ hw rfl).trans ?_
          rw [D4_at3]
          grind
      · rw [if_pos hv]
        refine (bare4p s v0 v1 v2 v3 t0 t1 t2 t3 u0 u1 u2 u3 w0 w1 w2 w3 _ hv rfl).trans ?_
        rw [D4_at2]
    · rw [if_pos hu]
      refine (bare4p (-s) u0 u1 u2 u3 t0 t1 t2 t3 v0 v1 v2 v3 w0 w1 w2 w3 _ hu rfl).trans ?_
      rw [D4_at1]
      grind
  · rw [if_pos ht]
    exact bare4p s t0 t1 t2 t3 u0 u1 u2 u3 v0 v1 v2 v3 w0 w1 w2 w3 _ ht rfl
theorem bare3' (s a b c d e f g k x : Int) : bare 3 s 1 [[a, b, c], [d, e, f], [g, k, x]] = s * D3 a b c d e f g k x :=
  bare3 s 1 a b c d e f g k x (D3 a b c d e f g k x) _ _ _ _ _ _ (by decide) (Int.one_mul _).symm (Int.one_mul _).symm (Int.one_mul _).symm (Int.one_mul _).symm (Int.one_mul _).symm (Int.one_mul _).symm (by rw [Int.one_mul, Int.one_mul])
/-- the elimination gives the law's determinant -/
theorem bare_det {n : Nat} {m : List (List Int)} (hn : n ≤ 4) (h : Sz n m) : bare n 1 1 m = detL n m := by
  match n, hn, h with
  | 0, _, _ => exact Int.one_mul 1
  | 1, _, h =>
    obtain ⟨a, rfl⟩ := sz1 h
    rw [bare1, detL1, Int.one_mul]
  | 2, _, h =>
    obtain ⟨a, b, c, d, rfl⟩ := sz2 h
    rw [bare2 1 1 a b c d (D2 a b c d) (by decide) (Int.one_mul _).symm, detL2, Int.one_mul]
  | 3, _, h =>
    obtain ⟨a, b, c, d, e, f, g, k, x, rfl⟩ := sz3 h
    rw [bare3', detL3, Int.one_mul]
  | 4, _, h =>
    obtain ⟨a, b, c, d, e, f, g, k, l, o, p, q, r, s, t, u, rfl⟩ := sz4 h
    rw [bare4, detL4, Int.one_mul]

end
end K44
namespace K44
open PySem PySem.Spec PyProof.Rows L2 Gm
open C8 (Cal Met Mak pe_c pe_mt pe_mt0 pe_mk)
section
variable {P : Program} {w : World} {K : PySem.W.Frag} {mg : Str → Option Value} {base : Heap}
/-! ### products, transposed, adjugate -/
def sgn (k : Nat) : Int := 1 - 2 * ((k : Int) % 2)
/-- the law's adjugate, by minors -/
def dueM (n : Nat) (m : List (List Int)) : List (List Int) := (List.range n).map fun i => (List.range n).map fun k => sgn (i + k) * detL (n - 1) (cutM m k i)
/-- d times the unit matrix -/
def scalM (n : Nat) (d : Int) : List (List Int) := (List.range n).map fun i => (List.range n).map fun k => d * (if i = k then 1 else 0)
theorem sgn_even {k : Nat} (h : k % 2 = 0) : sgn k = 1 := by
  unfold sgn
  omega
theorem sgn_odd {k : Nat} (h : k % 2 = 1) : sgn k = -1 := by
  unfold sgn
  omega
theorem mul_eq2 (a00 a01 a10 a11 b00 b01 b10 b11 : Int) : mulM [[a00, a01], [a10, a11]] [[b00, b01], [b10, b11]] 2 = [[a00 * b00 + (a01 * b10 + 0), a00 * b01 + (a01 * b11 + 0)], [a10 * b00 + (a11 * b10 + 0), a10 * b01 + (a11 * b11 + 0)]] := rfl
set_option maxHeartbeats 40000000 in
theorem mulD2 (a00 a01 a10 a11 b00 b01 b10 b11 : Int) : D2 (a00 * b00 + (a01 * b10 + 0)) (a00 * b01 + (a01 * b11 + 0)) (a10 * b00 + (a11 * b10 + 0)) (a10 * b01 + (a11 * b11 + 0)) = D2 a00 a01 a10 a11 * D2 b00 b01 b10 b11 := by
  unfold D2
  grind
theorem tr_eq2 (a00 a01 a10 a11 : Int) : transp [[a00, a01], [a10, a11]] 2 = [[a00, a10], [a01, a11]] := rfl
theorem trD2 (a00 a01 a10 a11 : Int) : D2 a00 a10 a01 a11 = D2 a00 a01 a10 a11 := by
  unfold D2
  grind
theorem due_eq2 (a00 a01 a10 a11 : Int) : dueM 2 [[a00, a01], [a10, a11]] = [[a11, -a01], [-a10, a00]] := by
  show [[sgn (0 + 0) * detL 1 [[a11]], sgn (0 + 1) * detL 1 [[a01]]], [sgn (1 + 0) * detL 1 [[a10]], sgn (1 + 1) * detL 1 [[a00]]]] = _
  simp only [detL1]
  simp only [sgn_even (show (0 + 0) % 2 = 0 from rfl), sgn_odd (show (0 + 1) % 2 = 1 from rfl), sgn_odd (show (1 + 0) % 2 = 1 from rfl), sgn_even (show (1 + 1) % 2 = 0 from rfl), Int.one_mul, Int.neg_mul]
theorem adj2l00 (a00 a01 a10 a11 : Int) : a00 * a11 + (a01 * (-a10) + 0) = D2 a00 a01 a10 a11 * 1 := by
  unfold D2
  grind
theorem adj2l01 (a00 a01 a10 a11 : Int) : a00 * (-a01) + (a01 * a00 + 0) = D2 a00 a01 a10 a11 * 0 := by
  unfold D2
  grind
theorem adj2l10 (a00 a01 a10 a11 : Int) : a10 * a11 + (a11 * (-a10) + 0) = D2 a00 a01 a10 a11 * 0 := by
  unfold D2
  grind
theorem adj2l11 (a00 a01 a10 a11 : Int) : a10 * (-a01) + (a11 * a00 + 0) = D2 a00 a01 a10 a11 * 1 := by
  unfold D2
  grind
theorem adj2r00 (a00 a01 a10 a11 : Int) : a11 * a00 + ((-a01) * a10 + 0) = D2 a00 a01 a10 a11 * 1 := by
  unfold D2
  grind
theorem adj2r01 (a00 a01 a10 a11 : Int) : a11 * a01 + ((-a01) * a11 + 0) = D2 a00 a01 a10 a11 * 0 := by
  unfold D2
  grind
theorem adj2r10 (a00 a01 a10 a11 : Int) : (-a10) * a00 + (a00 * a10 + 0) = D2 a00 a01 a10 a11 * 0 := by
  unfold D2
  grind
theorem adj2r11 (a00 a01 a10 a11 : Int) : (-a10) * a01 + (a00 * a11 + 0) = D2 a00 a01 a10 a11 * 1 := by
  unfold D2
  grind
theorem scal_eq2 (d : Int) : scalM 2 d = [[d * 1, d * 0], [d * 0, d * 1]] := rfl
theorem adjM2l (a00 a01 a10 a11 : Int) : mulM [[a00, a01], [a10, a11]] [[a11, -a01], [-a10, a00]] 2 = scalM 2 (D2 a00 a01 a10 a11) := by
  show [[a00 * a11 + (a01 * (-a10) + 0), a00 * (-a01) + (a01 * a00 + 0)], [a10 * a11 + (a11 * (-a10) + 0), a10 * (-a01) + (a11 * a00 + 0)]] = _
  rw [scal_eq2]
  rw [adj2l00 a00 a01 a10 a11, adj2l01 a00 a01 a10 a11, adj2l10 a00 a01 a10 a11, adj2l11 a00 a01 a10 a11]
theorem adjM2r (a00 a01 a10 a11 : Int) : mulM [[a11, -a01], [-a10, a00]] [[a00, a01], [a10, a11]] 2 = scalM 2 (D2 a00 a01 a10 a11) := by
  show [[a11 * a00 + ((-a01) * a10 + 0), a11 * a01 + ((-a01) * a11 + 0)], [(-a10) * a00 + (a00 * a10 + 0), (-a10) * a01 + (a00 * a11 + 0)]] = _
  rw [scal_eq2]
  rw [adj2r00 a00 a01 a10 a11, adj2r01 a00 a01 a10 a11, adj2r10 a00 a01 a10 a11, adj2r11 a00 a01 a10 a11]
theorem mul_eq3 (a00 a01 a02 a10 a11 a12 a20 a21 a22 b00 b01 b02 b10 b11 b12 b20 b21 b22 : Int) : mulM [[a00, a01, a02], [a10, a11, a12], [a20, a21, a22]] [[b00, b01, b02], [b10, b11, b12], [b20, b21, b22]] 3 = [[a00 * b00 + (a01 * b10 + (a02 * b20 + 0)), a00 * b01 + (a01 * b11 + (a02 * b21 + 0)), a00 * b02 + (a01 * b12 + (a02 * b22 + 0))], [a10 * b00 + (a11 * b10 + (a12 * b20 + 0)), a10 * b01 + (a11 * b11 + (a12 * b21 + 0)), a10 * b02 + (a11 * b12 + (a12 * b22 + 0))], [a20 * b00 + (a21 * b10 + (a22 * b20 + 0)), a20 * b01 + (a21 * b11 + (a22 * b21 + 0)), a20 * b02 + (a21 * b12 + (a22 * b22 + 0))]] := rfl
set_option maxHeartbeats 40000000 in
theorem mulD3 (a00 a01 a02 a10 a11 a12 a20 a21 a22 b00 b01 b02 b10 b11 b12 b20 b21 b22 : Int) : D3 (a00 * b00 + (a01 * b10 + (a02 * b20 + 0))) (a00 * b01 + (a01 * b11 + (a02 * b21 + 0))) (a00 * b02 + (a01 * b12 + (a02 * b22 + 0))) (a10 * b00 + (a11 * b10 + (a12 * b20 + 0))) (a10 * b01 + (a11 * b11 + (a12 * b21 + 0))) (a10 * b02 + (a11 * b12 + (a12 * b22 + 0))) (a20 * b00 + (a21 * b10 + (a22 * b20 + 0))) (a20 * b01 + (a21 * b11 + (a22 * b21 + 0))) (a20 * b02 + (a21 * b12 + (a22 * b22 + 0))) = D3 a00 a01 a02 a10 a11 a12 a20 a21 a22 * D3 b00 b01 b02 b10 b11 b12 b20 b21 b22 := by
  unfold D3 D2
  grind
theorem tr_eq3 (a00 a01 a02 a10 a11 a12 a20 a21 a22 : Int) : transp [[a00, a01, a02], [a10, a11, a12], [a20, a21, a22]] 3 = [[a00, a10, a20], [a01, a11, a21], [a02, a12, a22]] := rfl
theorem trD3 (a00 a01 a02 a10 a11 a12 a20 a21 a22 : Int) : D3 a00 a10 a20 a01 a11 a21 a02 a12 a22 = D3 a00 a01 a02 a10 a11 a12 a20 a21 a22 := by
  unfold D3 D2
  grind
theorem due_eq3 (a00 a01 a02 a10 a11 a12 a20 a21 a22 : Int) : dueM 3 [[a00, a01, a02], [a10, a11, a12], [a20, a21, a22]] = [[D2 a11 a12 a21 a22, -D2 a01 a02 a21 a22, D2 a01 a02 a11 a12], [-D2 a10 a12 a20 a22, D2 a00 a02 a20 a22, -D2 a00 a02 a10 a12], [D2 a10 a11 a20 a21, -D2 a00 a01 a20 a21, D2 a00 a01 a10 a11]] := by
  show [[sgn (0 + 0) * detL 2 [[a11, a12], [a21, a22]], sgn (0 + 1) * detL 2 [[a01, a02], [a21, a22]], sgn (0 + 2) * detL 2 [[a01, a02], [a11, a12]]], [sgn (1 + 0) * detL 2 [[a10, a12], [a20, a22]], sgn (1 + 1) * detL 2 [[a00, a02], [a20, a22]], sgn (1 + 2) * detL 2 [[a00, a02], [a10, a12]]], [sgn (2 + 0) * detL 2 [[a10, a11], [a20, a21]], sgn (2 + 1) * detL 2 [[a00, a01], [a20, a21]], sgn (2 + 2) * detL 2 [[a00, a01], [a10, a11]]]] = _
  simp only [detL2]
  simp only [sgn_even (show (0 + 0) % 2 = 0 from rfl), sgn_odd (show (0 + 1) % 2 = 1 from rfl), sgn_even (show (0 + 2) % 2 = 0 from rfl), sgn_odd (show (1 + 0) % 2 = 1 from rfl), sgn_even (show (1 + 1) % 2 = 0 from rfl), sgn_odd (show (1 + 2) % 2 = 1 from rfl), sgn_even (show (2 + 0) % 2 = 0 from rfl), sgn_odd (show (2 + 1) % 2 = 1 from rfl), sgn_even (show (2 + 2) % 2 = 0 from rfl), Int.one_mul, Int.neg_mul]
theorem adj3l00 (a00 a01 a02 a10 a11 a12 a20 a21 a22 : Int) : a00 * (D2 a11 a12 a21 a22) + (a01 * (-D2 a10 a12 a20 a22) + (a02 * (D2 a10 a11 a20 a21) + 0)) = D3 a00 a01 a02 a10 a11 a12 a20 a21 a22 * 1 := by
  unfold D3 D2
  grind
theorem adj3l01 (a00 a01 a02 a10 a11 a12 a20 a21 a22 : Int) : a00 * (-D2 a01 a02 a21 a22) + (a01 * (D2 a00 a02 a20 a22) + (a02 * (-D2 a00 a01 a20 a21) + 0)) = D3 a00 a01 a02 a10 a11 a12 a20 a21 a22 * 0 := by
  unfold D3 D2
  grind
theorem adj3l02 (a00 a01 a02 a10 a11 a12 a20 a21 a22 : Int) : a00 * (D2 a01 a02 a11 a12) + (a01 * (-D2 a00 a02 a10 a12) + (a02 * (D2 a00 a01 a10 a11) + 0)) = D3 a00 a01 a02 a10 a11 a12 a20 a21 a22 * 0 := by
  unfold D3 D2
  grind
theorem adj3l10 (a00 a01 a02 a10 a11 a12 a20 a21 a22 : Int) : a10 * (D2 a11 a12 a21 a22) + (a11 * (-D2 a10 a12 a20 a22) + (a12 * (D2 a10 a11 a20 a21) + 0)) = D3 a00 a01 a02 a10 a11 a12 a20 a21 a22 * 0 := by
  unfold D3 D2
  grind
theorem adj3l11 (a00 a01 a02 a10 a11 a12 a20 a21 a22 : Int) : a10 * (-D2 a01 a02 a21 a22) + (a11 * (D2 a00 a02 a20 a22) + (a12 * (-D2 a00 a01 a20 a21) + 0)) = D3 a00 a01 a02 a10 a11 a12 a20 a21 a22 * 1 := by
  unfold D3 D2
  grind
theorem adj3l12 (a00 a01 a02 a10 a11 a12 a20 a21 a22 : Int) : a10 * (D2 a01 a02 a11 a12) + (a11 * (-D2 a00 a02 a10 a12) + (a12 * (D2 a00 a01 a10 a11) + 0)) = D3 a00 a01 a02 a10 a11 a12 a20 a21 a22 * 0 := by
  unfold D3 D2
  grind
theorem adj3l20 (a00 a01 a02 a10 a11 a12 a20 a21 a22 : Int) : a20 * (D2 a11 a12 a21 a22) + (a21 * (-D2 a10 a12 a20 a22) + (a22 * (D2 a10 a11 a20 a21) + 0)) = D3 a00 a01 a02 a10 a11 a12 a20 a21 a22 * 0 := by
  unfold D3 D2
  grind
theorem adj3l21 (a00 a01 a02 a10 a11 a12 a20 a21 a22 : Int) : a20 * (-D2 a01 a02 a21 a22) + (a21 * (D2 a00 a02 a20 a22) + (a22 * (-D2 a00 a01 a20 a21) + 0)) = D3 a00 a01 a02 a10 a11 a12 a20 a21 a22 * 0 := by
  unfold D3 D2
  grind
theorem adj3l22 (a00 a01 a02 a10 a11 a12 a20 a21 a22 : Int) : a20 * (D2 a01 a02 a11 a12) + (a21 * (-D2 a00 a02 a10 a12) + (a22 * (D2 a00 a01 a10 a11) + 0)) = D3 a00 a01 a02 a10 a11 a12 a20 a21 a22 * 1 := by
  unfold D3 D2
  grind
theorem adj3r00 (a00 a01 a02 a10 a11 a12 a20 a21 a22 : Int) : (D2 a11 a12 a21 a22) * a00 + ((-D2 a01 a02 a21 a22) * a10 + ((D2 a01 a02 a11 a12) * a20 + 0)) = D3 a00 a01 a02 a10 a11 a12 a20 a21 a22 * 1 := by
  unfold D3 D2
  grind
theorem adj3r01 (a00 a01 a02 a10 a11 a12 a20 a21 a22 : Int) : (D2 a11 a12 a21 a22) * a01 + ((-D2 a01 a02 a21 a22) * a11 + ((D2 a01 a02 a11 a12) * a21 + 0)) = D3 a00 a01 a02 a10 a11 a12 a20 a21 a22 * 0 := by
  unfold D3 D2
  grind
theorem adj3r02 (a00 a01 a02 a10 a11 a12 a20 a21 a22 : Int) : (D2 a11 a12 a21 a22) * a02 + ((-D2 a01 a02 a21 a22) * a12 + ((D2 a01 a02 a11 a12) * a22 + 0)) = D3 a00 a01 a02 a10 a11 a12 a20 a21 a22 * 0 := by
  unfold D3 D2
  grind
theorem adj3r10 (a00 a01 a02 a10 a11 a12 a20 a21 a22 : Int) : (-D2 a10 a12 a20 a22) * a00 + ((D2 a00 a02 a20 a22) * a10 + ((-D2 a00 a02 a10 a12) * a20 + 0)) = D3 a00 a01 a02 a10 a11 a12 a20 a21 a22 * 0 := by
  unfold D3 D2
  grind
theorem adj3r11 (a00 a01 a02 a10 a11 a12 a20 a21 a22 : Int) : (-D2 a10 a12 a20 a22) * a01 + ((D2 a00 a02 a20 a22) * a11 + ((-D2 a00 a02 a10 a12) * a21 + 0)) = D3 a00 a01 a02 a10 a11 a12 a20 a21 a22 * 1 := by
  unfold D3 D2
  grind
theorem adj3r12 (a00 a01 a02 a10 a11 a12 a20 a21 a22 : Int) : (-D2 a10 a12 a20 a22) * a02 + ((D2 a00 a02 a20 a22) * a12 + ((-D2 a00 a02 a10 a12) * a22 + 0)) = D3 a00 a01 a02 a10 a11 a12 a20 a21 a22 * 0 := by
  unfold D3 D2
  grind
theorem adj3r20 (a00 a01 a02 a10 a11 a12 a20 a21 a22 : Int) : (D2 a10 a11 a20 a21) * a00 + ((-D2 a00 a01 a20 a21) * a10 + ((D2 a00 a01 a10 a11) * a20 + 0)) = D3 a00 a01 a02 a10 a11 a12 a20 a21 a22 * 0 := by
  unfold D3 D2
  grind
theorem adj3r21 (a00 a01 a02 a10 a11 a12 a20 a21 a22 : Int) : (D2 a10 a11 a20 a21) * a01 + ((-D2 a00 a01 a20 a21) * a11 + ((D2 a00 a01 a10 a11) * a21 + 0)) = D3 a00 a01 a02 a10 a11 a12 a20 a21 a22 * 0 := by
  unfold D3 D2
  grind
theorem adj3r22 (a00 a01 a02 a10 a11 a12 a20 a21 a22 : Int) : (D2 a10 a11 a20 a21) * a02 + ((-D2 a00 a01 a20 a21) * a12 + ((D2 a00 a01 a10 a11) * a22 + 0)) = D3 a00 a01 a02 a10 a11 a12 a20 a21 a22 * 1 := by
  unfold D3 D2
  grind
theorem scal_eq3 (d : Int) : scalM 3 d = [[d * 1, d * 0, d * 0], [d * 0, d * 1, d * 0], [d * 0, d * 0, d * 1]] := rfl
theorem adjM3l (a00 a01 a02 a10 a11 a12 a20 a21 a22 : Int) : mulM [[a00, a01, a02], [a10, a11, a12], [a20, a21, a22]] [[D2 a11 a12 a21 a22, -D2 a01 a02 a21 a22, D2 a01 a02 a11 a12], [-D2 a10 a12 a20 a22, D2 a00 a02 a20 a22, -D2 a00 a02 a10 a12], [D2 a10 a11 a20 a21, -D2 a00 a01 a20 a21, D2 a00 a01 a10 a11]] 3 = scalM 3 (D3 a00 a01 a02 a10 a11 a12 a20 a21 a22) := by
  show [[a00 * (D2 a11 a12 a21 a22) + (a01 * (-D2 a10 a12 a20 a22) + (a02 * (D2 a10 a11 a20 a21) + 0)), a00 * (-D2 a01 a02 a21 a22) + (a01 * (D2 a00 a02 a20 a22) + (a02 * (-D2 a00 a01 a20 a21) + 0)), a00 * (D2 a01 a02 a11 a12) + (a01 * (-D2 a00 a02 a10 a12) + (a02 * (D2 a00 a01 a10 a11) + 0))], [a10 * (D2 a11 a12 a21 a22) + (a11 * (-D2 a10 a12 a20 a22) + (a12 * (D2 a10 a11 a20 a21) + 0)), a10 * (-D2 a01 a02 a21 a22) + (a11 * (D2 a00 a02 a20 a22) + (a12 * (-D2 a00 a01 a20 a21) + 0)), a10 * (D2 a01 a02 a11 a12) + (a11 * (-D2 a00 a02 a10 a12) + (a12 * (D2 a00 a01 a10 a11) + 0))], [a20 * (D2 a11 a12 a21 a22) + (a21 * (-D2 a10 a12 a20 a22) + (a22 * (D2 a10 a11 a20 a21) + 0)), a20 * (-D2 a01 a02 a21 a22) + (a21 * (D2 a00 a02 a20 a22) + (a22 * (-D2 a00 a01 a20 a21) + 0)), a20 * (D2 a01 a02 a11 a12) + (a21 * (-D2 a00 a02 a10 a12) + (a22 * (D2 a00 a01 a10 a11) + 0))]] = _
  rw [scal_eq3]
  rw [adj3l00 a00 a01 a02 a10 a11 a12 a20 a21 a22, adj3l01 a00 a01 a02 a10 a11 a12 a20 a21 a22, adj3l02 a00 a01 a02 a10 a11 a12 a20 a21 a22, adj3l10 a00 a01 a02 a10 a11 a12 a20 a21 a22, adj3l11 a00 a01 a02 a10 a11 a12 a20 a21 a22, adj3l12 a00 a01 a02 a10 a11 a12 a20 a21 a22, adj3l20 a00 a01 a02 a10 a11 a12 a20 a21 a22, adj3l21 a00 a01 a02 a10 a11 a12 a20 a21 a22, adj3l22 a00 a01 a02 a10 a11 a12 a20 a21 a22]
theorem adjM3r (a00 a01 a02 a10 a11 a12 a20 a21 a22 : Int) : mulM [[D2 a11 a12 a21 a22, -D2 a01 a02 a21 a22, D2 a01 a02 a11 a12], [-D2 a10 a12 a20 a22, D2 a00 a02 a20 a22, -D2 a00 a02 a10 a12], [D2 a10 a11 a20 a21, -D2 a00 a01 a20 a21, D2 a00 a01 a10 a11]] [[a00, a01, a02], [a10, a11, a12], [a20, a21, a22]] 3 = scalM 3 (D3 a00 a01 a02 a10 a11 a12 a20 a21 a22) := by
  show [[(D2 a11 a12 a21 a22) * a00 + ((-D2 a01 a02 a21 a22) * a10 + ((D2 a01 a02 a11 a12) * a20 + 0)), (D2 a11 a12 a21 a22) * a01 + ((-D2 a01 a02 a21 a22) * a11 + ((D2 a01 a02 a11 a12) * a21 + 0)), (D2 a11 a12 a21 a22) * a02 + ((-D2 a01 a02 a21 a22) * a12 + ((D2 a01 a02 a11 a12) * a22 + 0))], [(-D2 a10 a12 a20 a22) * a00 + ((D2 a00 a02 a20 a22) * a10 + ((-D2 a00 a02 a10 a12) * a20 + 0)), (-D2 a10 a12 a20 a22) * a01 + ((D2 a00 a02 a20 a22) * a11 + ((-D2 a00 a02 a10 a12) * a21 + 0)), (-D2 a10 a12 a20 a22) * a02 + ((D2 a00 a02 a20 a22) * a12 + ((-D2 a00 a02 a10 a12) * a22 + 0))], [(D2 a10 a11 a20 a21) * a00 + ((-D2 a00 a01 a20 a21) * a10 + ((D2 a00 a01 a10 a11) * a20 + 0)), (D2 a10 a11 a20 a21) * a01 + ((-D2 a00 a01 a20 a21) * a11 + ((D2 a00 a01 a10 a11) * a21 + 0)), (D2 a10 a11 a20 a21) * a02 + ((-D2 a00 a01 a20 a21) * a12 + ((D2 a00 a01 a10 a11) * a22 + 0))]] = _
  rw [scal_eq3]
  rw [adj3r00 a00 a01 a02 a10 a11 a12 a20 a21 a22, adj3r01 a00 a01 a02 a10 a11 a12 a20 a21 a22, adj3r02 a00 a01 a02 a10 a11 a12 a20 a21 a22, adj3r10 a00 a01 a02 a10 a11 a12 a20 a21 a22, adj3r11 a00 a01 a02 a10 a11 a12 a20 a21 a22, adj3r12 a00 a01 a02 a10 a11 a12 a20 a21 a22, adj3r20 a00 a01 a02 a10 a11 a12 a20 a21 a22, adj3r21 a00 a01 a02 a10 a11 a12 a20 a21 a22, adj3r22 a00 a01 a02 a10 a11 a12 a20 a21 a22]
theorem mul_eq4 (a00 a01 a02 a03 a10 a11 a12 a13 a20 a21 a22 a23 a30 a31 a32 a33 b00 b01 b02 b03 b10 b11 b12 b13 b20 b21 b22 b23 b30 b31 b32 b33 : Int) : mulM [[a00, a01, a02, a03], [a10, a11, a12, a13], [a20, a21, a22, a23], [a30, a31, a32, a33]] [[b00, b01, b02, b03], [b10, b11, b12, b13], [b20, b21, b22, b23], [b30, b31, b32, b33]] 4 = [[a00 * b00 + (a01 * b10 + (a02 * b20 + (a03 * b30 + 0))), a00 * b01 + (a01 * b11 + (a02 * b21 + (a03 * b31 + 0))), a00 * b02 + (a01 * b12 + (a02 * b22 + (a03 * b32 + 0))), a00 * b03 + (a01 * b13 + (a02 * b23 + (a03 * b33 + 0)))], [a10 * b00 + (a11 * b10 + (a12 * b20 + (a13 * b30 + 0))), a10 * b01 + (a11 * b11 + (a12 * b21 + (a13 * b31 + 0))), a10 * b02 + (a11 * b12 + (a12 * b22 + (a13 * b32 + 0))), a10 * b03 + (a11 * b13 + (a12 * b23 + (a13 * b33 + 0)))], [a20 * b00 + (a21 * b10 + (a22 * b20 + (a23 * b30 + 0))), a20 * b01 + (a21 * b11 + (a22 * b21 + (a23 * b31 + 0))), a20 * b02 + (a21 * b12 + (a22 * b22 + (a23 * b32 + 0))), a20 * b03 + (a21 * b13 + (a22 * b23 + (a23 * b33 + 0)))], [a30 * b00 + (a31 * b10 + (a32 * b20 + (a33 * b30 + 0))), a30 * b01 + (a31 * b11 + (a32 * b21 + (a33 * b31 + 0))), a30 * b02 + (a31 * b12 + (a32 * b22 + (a33 * b32 + 0))), a30 * b03 + (a31 * b13 + (a32 * b23 + (a33 * b33 + 0)))]] := rfl
set_option maxHeartbeats 40000000 in
theorem mulD4 (a00 a01 a02 a03 a10 a11 a12 a13 a20 a21 a22 a23 a30 a31 a32 a33 b00 b01 b02 b03 b10 b11 b12 b13 b20 b21 b22 b23 b30 b31 b32 b33 : Int) : D4 (a00 * b00 + (a01 * b10 + (a02 * b20 + (a03 * b30 + 0)))) (a00 * b01 + (a01 * b11 + (a02 * b21 + (a03 * b31 + 0)))) (a00 * b02 + (a01 * b12 + (a02 * b22 + (a03 * b32 + 0)))) (a00 * b03 + (a01 * b13 + (a02 * b23 + (a03 * b33 + 0)))) (a10 * b00 + (a11 * b10 + (a12 * b20 + (a13 * b30 + 0)))) (a10 * b01 + (a11 * b11 + (a12 * b21 + (a13 * b31 + 0)))) (a10 * b02 + (a11 * b12 + (a12 * b22 + (a13 * b32 + 0)))) (a10 * b03 + (a11 * b13 + (a12 * b23 + (a13 * b33 + 0)))) (a20 * b00 + (a21 * b10 + (a22 * b20 + (a23 * b30 + 0)))) (a20 * b01 + (a21 * b11 + (a22 * b21 + (a23 * b31 + 0)))) (a20 * b02 + (a21 * b12 + (a22 * b22 + (a23 * b32 + 0)))) (a20 * b03 + (a21 * b13 + (a22 * b23 + (a23 * b33 + 0)))) (a30 * b00 + (a31 * b10 + (a32 * b20 + (a33 * b30 + 0)))) (a30 * b01 + (a31 * b11 + (a32 * b21 + (a33 * b31 + 0)))) (a30 * b02 + (a31 * b12 + (a32 * b22 + (a33 * b32 + 0)))) (a30 * b03 + (a31 * b13 + (a32 * b23 + (a33 * b33 + 0)))) = D4 a00 a01 a02 a03 a10 a11 a12 a13 a20 a21 a22 a23 a30 a31 a32 a33 * D4 b00 b01 b02 b03 b10 b11 b12 b13 b20 b21 b22 b23 b30 b31 b32 b33 := by
  unfold D4 D3 D2
  grind
theorem tr_eq4 (a00 a01 a02 a03 a10 a11 a12 a13 a20 a21 a22 a23 a30 a31 a32 a33 : Int) : transp [[a00, a01, a02, a03], [a10, a11, a12, a13], [a20, a21, a22, a23], [a30, a31, a32, a33]] 4 = [[a00, a10, a20, a30], [a01, a11, a21, a31], [a02, a12, a22, a32], [a03, a13, a23, a33]] := rfl
theorem trD4 (a00 a01 a02 a03 a10 a11 a12 a13 a20 a21 a22 a23 a30 a31 a32 a33 : Int) : D4 a00 a10 a20 a30 a01 a11 a21 a31 a02 a12 a22 a32 a03 a13 a23 a33 = D4 a00 a01 a02 a03 a10 a11 a12 a13 a20 a21 a22 a23 a30 a31 a32 a33 := by
  unfold D4 D3 D2
  grind
theorem due_eq4 (a00 a01 a02 a03 a10 a11 a12 a13 a20 a21 a22 a23 a30 a31 a32 a33 : Int) : dueM 4 [[a00, a01, a02, a03], [a10, a11, a12, a13], [a20, a21, a22, a23], [a30, a31, a32, a33]] = [[D3 a11 a12 a13 a21 a22 a23 a31 a32 a33, -D3 a01 a02 a03 a21 a22 a23 a31 a32 a33, D3 a01 a02 a03 a11 a12 a13 a31 a32 a33, -D3 a01 a02 a03 a11 a12 a13 a21 a22 a23], [-D3 a10 a12 a13 a20 a22 a23 a30 a32 a33, D3 a00 a02 a03 a20 a22 a23 a30 a32 a33, -D3 a00 a02 a03 a10 a12 a13 a30 a32 a33, D3 a00 a02 a03 a10 a12 a13 a20 a22 a23], [D3 a10 a11 a13 a20 a21 a23 a30 a31 a33, -D3 a00 a01 a03 a20 a21 a23 a30 a31 a33, D3 a00 a01 a03 a10 a11 a13 a30 a31 a33, -D3 a00 a01 a03 a10 a11 a13 a20 a21 a23], [-D3 a10 a11 a12 a20 a21 a22 a30 a31 a32, D3 a00 a01 a02 a20 a21 a22 a30 a31 a32, -D3 a00 a01 a02 a10 a11 a12 a30 a31 a32, D3 a00 a01 a02 a10 a11 a12 a20 a21 a22]] := by
  show [[sgn (0 + 0) * detL 3 [[a11, a12, a13], [a21, a22, a23], [a31, a32, a33]], sgn (0 + 1) * detL 3 [[a01, a02, a03], [a21, a22, a23], [a31, a32, a33]], sgn (0 + 2) * detL 3 [[a01, a02, a03], [a11, a12, a13], [a31, a32, a33]], sgn (0 + 3) * detL 3 [[a01, a02, a03], [a11, a12, a13], [a21, a22, a23]]], [sgn (1 + 0) * detL 3 [[a10, a12, a13], [a20, a22, a23], [a30, a32, a33]], sgn (1 + 1) * detL 3 [[a00, a02, a03], [a20, a22, a23], [a30, a32, a33]], sgn (1 + 2) * detL 3 [[a00, a02, a03], [a10, a12, a13], [a30, a32, a33]], sgn (1 + 3) * detL 3 [[a00, a02, a03], [a10, a12, a13], [a20, a22, a23]]], [sgn (2 + 0) * detL 3 [[a10, a11, a13], [a20, a21, a23], [a30, a31, a33]], sgn (2 + 1) * detL 3 [[a00, a01, a03], [a20, a21, a23], [a30, a31, a33]], sgn (2 + 2) * detL 3 [[a00, a01, a03], [a10, a11, a13], [a30, a31, a33]], sgn (2 + 3) * detL 3 [[a00, a01, a03], [a10, a11, a13], [a20, a21, a23]]], [sgn (3 + 0) * detL 3 [[a10, a11, a12], [a20, a21, a22], [a30, a31, a32]], sgn (3 + 1) * detL 3 [[a00, a01, a02], [a20, a21, a22], [a30, a31, a32]], sgn (3 + 2) * detL 3 [[a00, a01, a02], [a10, a11, a12], [a30, a31, a32]], sgn (3 + 3) * detL 3 [[a00, a01, a02], [a10, a11, a12], [a20, a21, a22]]]] = _
  simp only [detL3]
  simp only [sgn_even (show (0 + 0) % 2 = 0 from rfl), sgn_odd (show (0 + 1) % 2 = 1 from rfl), sgn_even (show (0 + 2) % 2 = 0 from rfl), sgn_odd (show (0 + 3) % 2 = 1 from rfl), sgn_odd (show (1 + 0) % 2 = 1 from rfl), sgn_even (show (1 + 1) % 2 = 0 from rfl), sgn_odd (show (1 + 2) % 2 = 1 from rfl), sgn_even (show (1 + 3) % 2 = 0 from rfl), sgn_even (show (2 + 0) % 2 = 0 from rfl), sgn_odd (show (2 + 1) % 2 = 1 from rfl), sgn_even (show (2 + 2) % 2 = 0 from rfl), sgn_odd (show (2 + 3) % 2 = 1 from rfl), sgn_odd (show (3 + 0) % 2 = 1 from rfl), sgn_even (show (3 + 1) % 2 = 0 from rfl), sgn_odd (show (3 + 2) % 2 = 1 from rfl), sgn_even (show (3 + 3) % 2 = 0 from rfl), Int.one_mul, Int.neg_mul]
theorem adj4l00 (a00 a01 a02 a03 a10 a11 a12 a13 a20 a21 a22 a23 a30 a31 a32 a33 : Int) : a00 * (D3 a11 a12 a13 a21 a22 a23 a31 a32 a33) + (a01 * (-D3 a10 a12 a13 a20 a22 a23 a30 a32 a33) + (a02 * (D3 a10 a11 a13 a20 a21 a23 a30 a31 a33) + (a03 * (-D3 a10 a11 a12 a20 a21 a22 a30 a31 a32) + 0))) = D4 a00 a01 a02 a03 a10 a11 a12 a13 a20 a21 a22 a23 a30 a31 a32 a33 * 1 := by
  unfold D4 D3 D2
  grind
theorem adj4l01 (a00 a01 a02 a03 a10 a11 a12 a13 a20 a21 a22 a23 a30 a31 a32 a33 : Int) : a00 * (-D3 a01 a02 a03 a21 a22 a23 a31 a32 a33) + (a01 * (D3 a00 a02 a03 a20 a22 a23 a30 a32 a33) + (a02 * (-D3 a00 a01 a03 a20 a21 a23 a30 a31 a33) + (a03 * (D3 a00 a01 a02 a20 a21 a22 a30 a31 a32) + 0))) = D4 a00 a01 a02 a03 a10 a11 a12 a13 a20 a21 a22 a23 a30 a31 a32 a33 * 0 := by
  unfold D4 D3 D2
  grind
theorem adj4l02 (a00 a01 a02 a03 a10 a11 a12 a13 a20 a21 a22 a23 a30 a31 a32 a33 : Int) : a00 * (D3 a01 a02 a03 a11 a12 a13 a31 a32 a33) + (a01 * (-D3 a00 a02 a03 a10 a12 a13 a30 a32 a33) + (a02 * (D3 a00 a01 a03 a10 a11 a13 a30 a31 a33) + (a03 * (-D3 a00 a01 a02 a10 a11 a12 a30 a31 a32) + 0))) = D4 a00 a01 a02 a03 a10 a11 a12 a13 a20 a21 a22 a23 a30 a31 a32 a33 * 0 := by
  unfold D4 D3 D2
  grind
theorem adj4l03 (a00 a01 a02 a03 a10 a11 a12 a13 a20 a21 a22 a23 a30 a31 a32 a33 : Int) : a00 * (-D3 a01 a02 a03 a11 a12 a13 a21 a22 a23) + (a01 * (D3 a00 a02 a03 a10 a12 a13 a20 a22 a23) + (a02 * (-D3 a00 a01 a03 a10 a11 a13 a20 a21 a23) + (a03 * (D3 a00 a01 a02 a10 a11 a12 a20 a21 a22) + 0))) = D4 a00 a01 a02 a03 a10 a11 a12 a13 a20 a21 a22 a23 a30 a31 a32 a33 * 0 := by
  unfold D4 D3 D2
  grind
theorem adj4l10 (a00 a01 a02 a03 a10 a11 a12 a13 a20 a21 a22 a23 a30 a31 a32 a33 : Int) : a10 * (D3 a11 a12 a13 a21 a22 a23 a31 a32 a33) + (a11 * (-D3 a10 a12 a13 a20 a22 a23 a30 a32 a33) + (a12 * (D3 a10 a11 a13 a20 a21 a23 a30 a31 a33) + (a13 * (-D3 a10 a11 a12 a20 a21 a22 a30 a31 a32) + 0))) = D4 a00 a01 a02 a03 a10 a11 a12 a13 a20 a21 a22 a23 a30 a31 a32 a33 * 0 := by
  unfold D4 D3 D2
  grind
theorem adj4l11 (a00 a01 a02 a03 a10 a11 a12 a13 a20 a21 a22 a23 a30 a31 a32 a33 : Int) : a10 * (-D3 a01 a02 a03 a21 a22 a23 a31 a32 a33) + (a11 * (D3 a00 a02 a03 a20 a22 a23 a30 a32 a33) + (a12 * (-D3 a00 a01 a03 a20 a21 a23 a30 a31 a33) + (a13 * (D3 a00 a01 a02 a20 a21 a22 a30 a31 a32) + 0))) = D4 a00 a01 a02 a03 a10 a11 a12 a13 a20 a21 a22 a23 a30 a31 a32 a33 * 1 := by
  unfold D4 D3 D2
  grind
theorem adj4l12 (a00 a01 a02 a03 a10 a11 a12 a13 a20 a21 a22 a23 a30 a31 a32 a33 : Int) : a10 * (D3 a01 a02 a03 a11 a12 a13 a31 a32 a33) + (a11 * (-D3 a00 a02 a03 a10 a12 a13 a30 a32 a33) + (a12 * (D3 a00 a01 a03 a10 a11 a13 a30 a31 a33) + (a13 * (-D3 a00 a01 a02 a10 a11 a12 a30 a31 a32) + 0))) = D4 a00 a01 a02 a03 a10 a11 a12 a13 a20 a21 a22 a23 a30 a31 a32 a33 * 0 := by
  unfold D4 D3 D2
  grind
theorem adj4l13 (a00 a01 a02 a03 a10 a11 a12 a13 a20 a21 a22 a23 a30 a31 a32 a33 : Int) : a10 * (-D3 a01 a02 a03 a11 a12 a13 a21 a22 a23) + (a11 * (D3 a00 a02 a03 a10 a12 a13 a20 a22 a23) + (a12 * (-D3 a00 a01 a03 a10 a11 a13 a20 a21 a23) + (a13 * (D3 a00 a01 a02 a10 a11 a12 a20 a21 a22) + 0))) = D4 a00 a01 a02 a03 a10 a11 a12 a13 a20 a21 a22 a23 a30 a31 a32 a33 * 0 := by
  unfold D4 D3 D2
  grind
theorem adj4l20 (a00 a01 a02 a03 a10 a11 a12 a13 a20 a21 a22 a23 a30 a31 a32 a33 : Int) : a20 * (D3 a11 a12 a13 a21 a22 a23 a31 a32 a33) + (a21 * (-D3 a10 a12 a13 a20 a22 a23 a30 a32 a33) + (a22 * (D3 a10 a11 a13 a20 a21 a23 a30 a31 a33) + (a23 * (-D3 a10 a11 a12 a20 a21 a22 a30 a31 a32) + 0))) = D4 a00 a01 a02 a03 a10 a11 a12 a13 a20 a21 a22 a23 a30 a31 a32 a33 * 0 := by
  unfold D4 D3 D2
  grind
theorem adj4l21 (a00 a01 a02 a03 a10 a11 a12 a13 a20 a21 a22 a23 a30 a31 a32 a33 : Int) : a20 * (-D3 a01 a02 a03 a21 a22 a23 a31 a32 a33) + (a21 * (D3 a00 a02 a03 a20 a22 a23 a30 a32 a33) + (a22 * (-D3 a00 a01 a03 a20 a21 a23 a30 a31 a33) + (a23 * (D3 a00 a01 a02 a20 a21 a22 a30 a31 a32) + 0))) = D4 a00 a01 a02 a03 a10 a11 a12 a13 a20 a21 a22 a23 a30 a31 a32 a33 * 0 := by
  unfold D4 D3 D2
  grind
theorem adj4l22 (a00 a01 a02 a03 a10 a11 a12 a13 a20 a21 a22 a23 a30 a31 a32 a33 : Int) : a20 * (D3 a01 a02 a03 a11 a12 a13 a31 a32 a33) + (a21 * (-D3 a00 a02 a03 a10 a12 a13 a30 a32 a33) + (a22 * (D3 a00 a01 a03 a10 a11 a13 a30 a31 a33) + (a23 * (-D3 a00 a01 a02 a10 a11 a12 a30 a31 a32) + 0))) = D4 a00 a01 a02 a03 a10 a11 a12 a13 a20 a21 a22 a23 a30 a31 a32 a33 * 1 := by
  unfold D4 D3 D2
  grind
theorem adj4l23 (a00 a01 a02 a03 a10 a11 a12 a13 a20 a21 a22 a23 a30 a31 a32 a33 : Int) : a20 * (-D3 a01 a02 a03 a11 a12 a13 a21 a22 a23) + (a21 * (D3 a00 a02 a03 a10 a12 a13 a20 a22 a23) + (a22 * (-D3 a00 a01 a03 a10 a11 a13 a20 a21 a23) + (a23 * (D3 a00 a01 a02 a10 a11 a12 a20 a21 a22) + 0))) = D4 a00 a01 a02 a03 a10 a11 a12 a13 a20 a21 a22 a23 a30 a31 a32 a33 * 0 := by
  unfold D4 D3 D2
  grind
theorem adj4l30 (a00 a01 a02 a03 a10 a11 a12 a13 a20 a21 a22 a23 a30 a31 a32 a33 : Int) : a30 * (D3 a11 a12 a13 a21 a22 a23 a31 a32 a33) + (a31 * (-D3 a10 a12 a13 a20 a22 a23 a30 a32 a33) + (a32 * (D3 a10 a11 a13 a20 a21 a23 a30 a31 a33) + (a33 * (-D3 a10 a11 a12 a20 a21 a22 a30 a31 a32) + 0))) = D4 a00 a01 a02 a03 a10 a11 a12 a13 a20 a21 a22 a23 a30 a31 a32 a33 * 0 := by
  unfold D4 D3 D2
  grind
theorem adj4l31 (a00 a01 a02 a03 a10 a11 a12 a13 a20 a21 a22 a23 a30 a31 a32 a33 : Int) : a30 * (-D3 a01 a02 a03 a21 a22 a23 a31 a32 a33) + (a31 * (D3 a00 a02 a03 a20 a22 a23 a30 a32 a33) + (a32 * (-D3 a00 a01 a03 a20 a21 a23 a30 a31 a33) + (a33 * (D3 a00 a01 a02 a20 a21 a22 a30 a31 a32) + 0))) = D4 a00 a01 a02 a03 a10 a11 a12 a13 a20 a21 a22 a23 a30 a31 a32 a33 * 0 := by
  unfold D4 D3 D2
  grind
theorem adj4l32 (a00 a01 a02 a03 a10 a11 a12 a13 a20 a21 a22 a23 a30 a31 a32 a33 : Int) : a30 * (D3 a01 a02 a03 a11 a12 a13 a31 a32 a33) + (a31 * (-D3 a00 a02 a03 a10 a12 a13 a30 a32 a33) + (a32 * (D3 a00 a01 a03 a10 a11 a13 a30 a31 a33) + (a33 * (-D3 a00 a01 a02 a10 a11 a12 a30 a31 a32) + 0))) = D4 a00 a01 a02 a03 a10 a11 a12 a13 a20 a21 a22 a23 a30 a31 a32 a33 * 0 := by
  unfold D4 D3 D2
  grind
theorem adj4l33 (a00 a01 a02 a03 a10 a11 a12 a13 a20 a21 a22 a23 a30 a31 a32 a33 : Int) : a30 * (-D3 a01 a02 a03 a11 a12 a13 a21 a22 a23) + (a31 * (D3 a00 a02 a03 a10 a12 a13 a20 a22 a23) + (a32 * (-D3 a00 a01 a03 a10 a11 a13 a20 a21 a23) + (a33 * (D3 a00 a01 a02 a10 a11 a12 a20 a21 a22) + 0))) = D4 a00 a01 a02 a03 a10 a11 a12 a13 a20 a21 a22 a23 a30 a31 a32 a33 * 1 := by
  unfold D4 D3 D2
  grind
theorem adj4r00 (a00 a01 a02 a03 a10 a11 a12 a13 a20 a21 a22 a23 a30 a31 a32 a33 : Int) : (D3 a11 a12 a13 a21 a22 a23 a31 a32 a33) * a00 + ((-D3 a01 a02 a03 a21 a22 a23 a31 a32 a33) * a10 + ((D3 a01 a02 a03 a11 a12 a13 a31 a32 a33) * a20 + ((-D3 a01 a02 a03 a11 a12 a13 a21 a22 a23) * a30 + 0))) = D4 a00 a01 a02 a03 a10 a11 a12 a13 a20 a21 a22 a23 a30 a31 a32 a33 * 1 := by
  unfold D4 D3 D2
  grind
theorem adj4r01 (a00 a01 a02 a03 a10 a11 a12 a13 a20 a21 a22 a23 a30 a31 a32 a33 : Int) : (D3 a11 a12 a13 a21 a22 a23 a31 a32 a33) * a01 + ((-D3 a01 a02 a03 a21 a22 a23 a31 a32 a33) * a11 + ((D3 a01 a02 a03 a11 a12 a13 a31 a32 a33) * a21 + ((-D3 a01 a02 a03 a11 a12 a13 a21 a22 a23) * a31 + 0))) = D4 a00 a01 a02 a03 a10 a11 a12 a13 a20 a21 a22 a23 a30 a31 a32 a33 * 0 := by
  unfold D4 D3 D2
  grind
theorem adj4r02 (a00 a01 a02 a03 a10 a11 a12 a13 a20 a21 a22 a23 a30 a31 a32 a33 : Int) : (D3 a11 a12 a13 a21 a22 a23 a31 a32 a33) * a02 + ((-D3 a01 a02 a03 a21 a22 a23 a31 a32 a33) * a12 + ((D3 a01 a02 a03 a11 a12 a13 a31 a32 a33) * a22 + ((-D3 a01 a02 a03 a11 a12 a13 a21 a22 a23) * a32 + 0))) = D4 a00 a01 a02 a03 a10 a11 a12 a13 a20 a21 a22 a23 a30 a31 a32 a33 * 0 := by
  unfold D4 D3 D2
  grind
theorem adj4r03 (a00 a01 a02 a03 a10 a11 a12 a13 a20 a21 a22 a23 a30 a31 a32 a33 : Int) : (D3 a11 a12 a13 a21 a22 a23 a31 a32 a33) * a03 + ((-D3 a01 a02 a03 a21 a22 a23 a31 a32 a33) * a13 + ((D3 a01 a02 a03 a11 a12 a13 a31 a32 a33) * a23 + ((-D3 a01 a02 a03 a11 a12 a13 a21 a22 a23) * a33 + 0))) = D4 a00 a01 a02 a03 a10 a11 a12 a13 a20 a21 a22 a23 a30 a31 a32 a33 * 0 := by
  unfold D4 D3 D2
  grind
theorem adj4r10 (a00 a01 a02 a03 a10 a11 a12 a13 a20 a21 a22 a23 a30 a31 a32 a33 : Int) : (-D3 a10 a12 a13 a20 a22 a23 a30 a32 a33) * a00 + ((D3 a00 a02 a03 a20 a22 a23 a30 a32 a33) * a10 + ((-D3 a00 a02 a03 a10 a12 a13 a30 a32 a33) * a20 + ((D3 a00 a02 a03 a10 a12 a13 a20 a22 a23) * a30 + 0))) = D4 a00 a01 a02 a03 a10 a11 a12 a13 a20 a21 a22 a23 a30 a31 a32 a33 * 0 := by
  unfold D4 D3 D2
  grind
theorem adj4r11 (a00 a01 a02 a03 a10 a11 a12 a13 a20 a21 a22 a23 a30 a31 a32 a33 : Int) : (-D3 a10 a12 a13 a20 a22 a23 a30 a32 a33) * a01 + ((D3 a00 a02 a03 a20 a22 a23 a30 a32 a33) * a11 + ((-D3 a00 a02 a03 a10 a12 a13 a30 a32 a33) * a21 + ((D3 a00 a02 a03 a10 a12 a13 a20 a22 a23) * a31 + 0))) = D4 a00 a01 a02 a03 a10 a11 a12 a13 a20 a21 a22 a23 a30 a31 a32 a33 * 1 := by
  unfold D4 D3 D2
  grind
theorem adj4r12 (a00 a01 a02 a03 a10 a11 a12 a13 a20 a21 a22 a23 a30 a31 a32 a33 : Int) : (-D3 a10 a12 a13 a20 a22 a23 a30 a32 a33) * a02 + ((D3 a00 a02 a03 a20 a22 a23 a30 a32 a33) * a12 + ((-D3 a00 a02 a03 a10 a12 a13 a30 a32 a33) * a22 + ((D3 a00 a02 a03 a10 a12 a13 a20 a22 a23) * a32 + 0))) = D4 a00 a01 a02 a03 a10 a11 a12 a13 a20 a21 a22 a23 a30 a31 a32 a33 * 0 := by
  unfold D4 D3 D2
  grind
theorem adj4r13 (a00 a01 a02 a03 a10 a11 a12 a13 a20 a21 a22 a23 a30 a31 a32 a33 : Int) : (-D3 a10 a12 a13 a20 a22 a23 a30 a32 a33) * a03 + ((D3 a00 a02 a03 a20 a22 a23 a30 a32 a33) * a13 + ((-D3 a00 a02 a03 a10 a12 a13 a30 a32 a33) * a23 + ((D3 a00 a02 a03 a10 a12 a13 a20 a22 a23) * a33 + 0))) = D4 a00 a01 a02 a03 a10 a11 a12 a13 a20 a21 a22 a23 a30 a31 a32 a33 * 0 := by
  unfold D4 D3 D2
  grind
theorem adj4r20 (a00 a01 a02 a03 a10 a11 a12 a13 a20 a21 a22 a23 a30 a31 a32 a33 : Int) : (D3 a10 a11 a13 a20 a21 a23 a30 a31 a33) * a00 + ((-D3 a00 a01 a03 a20 a21 a23 a30 a31 a33) * a10 + ((D3 a00 a01 a03 a10 a11 a13 a30 a31 a33) * a20 + ((-D3 a00 a01 a03 a10 a11 a13 a20 a21 a23) * a30 + 0))) = D4 a00 a01 a02 a03 a10 a11 a12 a13 a20 a21 a22 a23 a30 a31 a32 a33 * 0 := by
  unfold D4 D3 D2
  grind
theorem adj4r21 (a00 a01 a02 a03 a10 a11 a12 a13 a20 a21 a22 a23 a30 a31 a32 a33 : Int) : (D3 a10 a11 a13 a20 a21 a23 a30 a31 a33) * a01 + ((-D3 a00 a01 a03 a20 a21 a23 a30 a31 a33) * a11 + ((D3 a00 a01 a03 a10 a11 a13 a30 a31 a33) * a21 + ((-D3 a00 a01 a03 a10 a11 a13 a20 a21 a23) * a31 + 0))) = D4 a00 a01 a02 a03 a10 a11 a12 a13 a20 a21 a22 a23 a30 a31 a32 a33 * 0 := by
  unfold D4 D3 D2
  grind
theorem adj4r22 (a00 a01 a02 a03 a10 a11 a12 a13 a20 a21 a22 a23 a30 a31 a32 a33 : Int) : (D3 a10 a11 a13 a20 a21 a23 a30 a31 a33) * a02 + ((-D3 a00 a01 a03 a20 a21 a23 a30 a31 a33) * a12 + ((D3 a00 a01 a03 a10 a11 a13 a30 a31 a33) * a22 + ((-D3 a00 a01 a03 a10 a11 a13 a20 a21 a23) * a32 + 0))) = D4 a00 a01 a02 a03 a10 a11 a12 a13 a20 a21 a22 a23 a30 a31 a32 a33 * 1 := by
  unfold D4 D3 D2
  grind
theorem adj4r23 (a00 a01 a02 a03 a10 a11 a12 a13 a20 a21 a22 a23 a30 a31 a32 a33 : Int) : (D3 a10 a11 a13 a20 a21 a23 a30 a31 a33) * a03 + ((-D3 a00 a01 a03 a20 a21 a23 a30 a31 a33) * a13 + ((D3 a00 a01 a03 a10 a11 a13 a30 a31 a33) * a23 + ((-D3 a00 a01 a03 a10 a11 a13 a20 a21 a23) * a33 + 0))) = D4 a00 a01 a02 a03 a10 a11 a12 a13 a20 a21 a22 a23 a30 a31 a32 a33 * 0 := by
  unfold D4 D3 D2
  grind
theorem adj4r30 (a00 a01 a02 a03 a10 a11 a12 a13 a20 a21 a22 a23 a30 a31 a32 a33 : Int) : (-D3 a10 a11 a12 a20 a21 a22 a30 a31 a32) * a00 + ((D3 a00 a01 a02 a20 a21 a22 a30 a31 a32) * a10 + ((-D3 a00 a01 a02 a10 a11 a12 a30 a31 a32) * a20 + ((D3 a00 a01 a02 a10 a11 a12 a20 a21 a22) * a30 + 0))) = D4 a00 a01 a02 a03 a10 a11 a12 a13 a20 a21 a22 a23 a30 a31 a32 a33 * 0 := by
  unfold D4 D3 D2
  grind
theorem adj4r31 (a00 a01 a02 a03 a10 a11 a12 a13 a20 a21 a22 a23 a30 a31 a32 a33 : Int) : (-D3 a10 a11 a12 a20 a21 a22 a30 a31 a32) * a01 + ((D3 a00 a01 a02 a20 a21 a22 a30 a31 a32) * a11 + ((-D3 a00 a01 a02 a10 a11 a12 a30 a31 a32) * a21 + ((D3 a00 a01 a02 a10 a11 a12 a20 a21 a22) * a31 + 0))) = D4 a00 a01 a02 a03 a10 a11 a12 a13 a20 a21 a22 a23 a30 a31 a32 a33 * 0 := by
  unfold D4 D3 D2
  grind
theorem adj4r32 (a00 a01 a02 a03 a10 a11 a12 a13 a20 a21 a22 a23 a30 a31 a32 a33 : Int) : (-D3 a10 a11 a12 a20 a21 a22 a30 a31 a32) * a02 + ((D3 a00 a01 a02 a20 a21 a22 a30 a31 a32) * a12 + ((-D3 a00 a01 a02 a10 a11 a12 a30 a31 a32) * a22 + ((D3 a00 a01 a02 a10 a11 a12 a20 a21 a22) * a32 + 0))) = D4 a00 a01 a02 a03 a10 a11 a12 a13 a20 a21 a22 a23 a30 a31 a32 a33 * 0 := by
  unfold D4 D3 D2
  grind
theorem adj4r33 (a00 a01 a02 a03 a10 a11 a12 a13 a20 a21 a22 a23 a30 a31 a32 a33 : Int) : (-D3 a10 a11 a12 a20 a21 a22 a30 a31 a32) * a03 + ((D3 a00 a01 a02 a20 a21 a22 a30 a31 a32) * a13 + ((-D3 a00 a01 a02 a10 a11 a12 a30 a31 a32) * a23 + ((D3 a00 a01 a02 a10 a11 a12 a20 a21 a22) * a33 + 0))) = D4 a00 a01 a02 a03 a10 a11 a12 a13 a20 a21 a22 a23 a30 a31 a32 a33 * 1 := by
  unfold D4 D3 D2
  grind
theorem scal_eq4 (d : Int) : scalM 4 d = [[d * 1, d * 0, d * 0, d * 0], [d * 0, d * 1, d * 0, d * 0], [d * 0, d * 0, d * 1, d * 0], [d * 0, d * 0, d * 0, d * 1]] := rfl
theorem adjM4l (a00 a01 a02 a03 a10 a11 a12 a13 a20 a21 a22 a23 a30 a31 a32 a33 : Int) : mulM [[a00, a01, a02, a03], [a10, a11, a12, a13], [a20, a21, a22, a23], [a30, a31, a32, a33]] [[D3 a11 a12 a13 a21 a22 a23 a31 a32 a33, -D3 a01 a02 a03 a21 a22 a23 a31 a32 a33, D3 a01 a02 a03 a11 a12 a13 a31 a32 a33, -D3 a01 a02 a03 a11 a12 a13 a21 a22 a23], [-D3 a10 a12 a13 a20 a22 a23 a30 a32 a33, D3 a00 a02 a03 a20 a22 a23 a30 a32 a33, -D3 a00 a02 a03 a10 a12 a13 a30 a32 a33, D3 a00 a02 a03 a10 a12 a13 a20 a22 a23], [D3 a10 a11 a13 a20 a21 a23 a30 a31 a33, -D3 a00 a01 a03 a20 a21 a23 a30 a31 a33, D3 a00 a01 a03 a10 a11 a13 a30 a31 a33, -D3 a00 a01 a03 a10 a11 a13 a20 a21 a23], [-D3 a10 a11 a12 a20 a21 a22 a30 a31 a32, D3 a00 a01 a02 a20 a21 a22 a30 a31 a32, -D3 a00 a01 a02 a10 a11 a12 a30 a31 a32, D3 a00 a01 a02 a10 a11 a12 a20 a21 a22]] 4 = scalM 4 (D4 a00 a01 a02 a03 a10 a11 a12 a13 a20 a21 a22 a23 a30 a31 a32 a33) := by
  show [[a00 * (D3 a11 a12 a13 a21 a22 a23 a31 a32 a33) + (a01 * (-D3 a10 a12 a13 a20 a22 a23 a30 a32 a33) + (a02 * (D3 a10 a11 a13 a20 a21 a23 a30 a31 a33) + (a03 * (-D3 a10 a11 a12 a20 a21 a22 a30 a31 a32) + 0))), a00 * (-D3 a01 a02 a03 a21 a22 a23 a31 a32 a33) + (a01 * (D3 a00 a02 a03 a20 a22 a23 a30 a32 a33) + (a02 * (-D3 a00 a01 a03 a20 a21 a23 a30 a31 a33) + (a03 * (D3 a00 a01 a02 a20 a21 a22 a30 a31 a32) + 0))), a00 * (D3 a01 a02 a03 a11 a12 a13 a31 a32 a33) + (a01 * (-D3 a00 a02 a03 a10 a12 a13 a30 a32 a33) + (a02 * (D3 a00 a01 a03 a10 a11 a13 a30 a31 a33) + (a03 * (-D3 a00 a01 a02 a10 a11 a12 a30 a31 a32) + 0))), a00 * (-D3 a01 a02 a03 a11 a12 a13 a21 a22 a23) + (a01 * (D3 a00 a02 a03 a10 a12 a13 a20 a22 a23) + (a02 * (-D3 a00 a01 a03 a10 a11 a13 a20 a21 a23) + (a03 * (D3 a00 a01 a02 a10 a11 a12 a20 a21 a22) + 0)))], [a10 * (D3 a11 a12 a13 a21 a22 a23 a31 a32 a33) + (a11 * (-D3 a10 a12 a13 a20 a22 a23 a30 a32 a33) + (a12 * (D3 a10 a11 a13 a20 a21 a23 a30 a31 a33) + (a13 * (-D3 a10 a11 a12 a20 a21 a22 a30 a31 a32) + 0))), a10 * (-D3 a01 a02 a03 a21 a22 a23 a31 a32 a33) + (a11 * (D3 a00 a02 a03 a20 a22 a23 a30 a32 a33) + (a12 * (-D3 a00 a01 a03 a20 a21 a23 a30 a31 a33) + (a13 * (D3 a00 a01 a02 a20 a21 a22 a30 a31 a32) + 0))), a10 * (D3 a01 a02 a03 a11 a12 a13 a31 a32 a33) + (a11 * (-D3 a00 a02 a03 a10 a12 a13 a30 a32 a33) + (a12 * (D3 a00 a01 a03 a10 a11 a13 a30 a31 a33) + (a13 * (-D3 a00 a01 a02 a10 a11 a12 a30 a31 a32) + 0))), a10 * (-D3 a01 a02 a03 a11 a12 a13 a21 a22 a23) + (a11 * (D3 a00 a02 a03 a10 a12 a13 a20 a22 a23) + (a12 * (-D3 a00 a01 a03 a10 a11 a13 a20 a21 a23) + (a13 * (D3 a00 a01 a02 a10 a11 a12 a20 a21 a22) + 0)))], [a20 * (D3 a11 a12 a13 a21 a22 a23 a31 a32 a33) + (a21 * (-D3 a10 a12 a13 a20 a22 a23 a30 a32 a33) + (a22 * (D3 a10 a11 a13 a20 a21 a23 a30 a31 a33) + (a23 * (-D3 a10 a11 a12 a20 a21 a22 a30 a31 a32) + 0))), a20 * (-D3 a01 a02 a03 a21 a22 a23 a31 a32 a33) + (a21 * (D3 a00 a02 a03 a20 a22 a23 a30 a32 a33) + (a22 * (-D3 a00 a01 a03 a20 a21 a23 a30 a31 a33) + (a23 * (D3 a00 a01 a02 a20 a21 a22 a30 a31 a32) + 0))), a20 * (D3 a01 a02 a03 a11 a12 a13 a31 a32 a33) + (a21 * (-D3 a00 a02 a03 a10 a12 a13 a30 a32 a33) + (a22 * (D3 a00 a01 a03 a10 a11 a13 a30 a31 a33) + (a23 * (-D3 a00 a01 a02 a10 a11 a12 a30 a31 a32) + 0))), a20 * (-D3 a01 a02 a03 a11 a12 a13 a21 a22 a23) + (a21 * (D3 a00 a02 a03 a10 a12 a13 a20 a22 a23) + (a22 * (-D3 a00 a01 a03 a10 a11 a13 a20 a21 a23) + (a23 * (D3 a00 a01 a02 a10 a11 a12 a20 a21 a22) + 0)))], [a30 * (D3 a11 a12 a13 a21 a22 a23 a31 a32 a33) + (a31 * (-D3 a10 a12 a13 a20 a22 a23 a30 a32 a33) + (a32 * (D3 a10 a11 a13 a20 a21 a23 a30 a31 a33) + (a33 * (-D3 a10 a11 a12 a20 a21 a22 a30 a31 a32) + 0))), a30 * (-D3 a01 a02 a03 a21 a22 a23 a31 a32 a33) + (a31 * (D3 a00 a02 a03 a20 a22 a23 a30 a32 a33) + (a32 * (-D3 a00 a01 a03 a20 a21 a23 a30 a31 a33) + (a33 * (D3 a00 a01 a02 a20 a21 a22 a30 a31 a32) + 0))), a30 * (D3 a01 a02 a03 a11 a12 a13 a31 a32 a33) + (a31 * (-D3 a00 a02 a03 a10 a12 a13 a30 a32 a33) + (a32 * (D3 a00 a01 a03 a10 a11 a13 a30 a31 a33) + (a33 * (-D3 a00 a01 a02 a10 a11 a12 a30 a31 a32) + 0))), a30 * (-D3 a01 a02 a03 a11 a12 a13 a21 a22 a23) + (a31 * (D3 a00 a02 a03 a10 a12 a13 a20 a22 a23) + (a32 * (-D3 a00 a01 a03 a10 a11 a13 a20 a21 a23) + (a33 * (D3 a00 a01 a02 a10 a11 a12 a20 a21 a22) + 0)))]] = _
  rw [scal_eq4]
  rw [adj4l00 a00 a01 a02 a03 a10 a11 a12 a13 a20 a21 a22 a23 a30 a31 a32 a33, adj4l01 a00 a01 a02 a03 a10 a11 a12 a13 a20 a21 a22 a23 a30 a31 a32 a33, adj4l02 a00 a01 a02 a03 a10 a11 a12 a13 a20 a21 a22 a23 a30 a31 a32 a33, adj4l03 a00 a01 a02 a03 a10 a11 a12 a13 a20 a21 a22 a23 a30 a31 a32 a33, adj4l10 a00 a01 a02 a03 a10 a11 a12 a13 a20 a21 a22 a23 a30 a31 a32 a33, adj4l11 a00 a01 a02 a03 a10 a11 a12 a13 a20 a21 a22 a23 a30 a31 a32 a33, adj4l12 a00 a01 a02 a03 a10 a11 a12 a13 a20 a21 a22 a23 a30 a31 a32 a33, adj4l13 a00 a01 a02 a03 a10 a11 a12 a13 a20 a21 a22 a23 a30 a31 a32 a33, adj4l20 a00 a01 a02 a03 a10 a11 a12 a13 a20 a21 a22 a23 a30 a31 a32 a33, adj4l21 a00 a01 a02 a03 a10 a11 a12 a13 a20 a21 a22 a23 a30 a31 a32 a33, adj4l22 a00 a01 a02 a03 a10 a11 a12 a13 a20 a21 a22 a23 a30 a31 a32 a33, adj4l23 a00 a01 a02 a03 a10 a11 a12 a13 a20 a21 a22 a23 a30 a31 a32 a33, adj4l30 a00 a01 a02 a03 a10 a11 a12 a13 a20 a21 a22 a23 a30 a31 a32 a33, adj4l31 a00 a01 a02 a03 a10 a11 a12 a13 a20 a21 a22 a23 a30 a31 a32 a33, adj4l32 a00 a01 a02 a03 a10 a11 a12 a13 a20 a21 a22 a23 a30 a31 a32 a33, adj4l33 a00 a01 a02 a03 a10 a11 a12 a13 a20 a21 a22 a23 a30 a31 a32 a33]
theorem adjM4r (a00 a01 a02 a03 a10 a11 a12 a13 a20 a21 a22 a23 a30 a31 a32 a33 : Int) : mulM [[D3 a11 a12 a13 a21 a22 a23 a31 a32 a33, -D3 a01 a02 a03 a21 a22 a23 a31 a32 a33, D3 a01 a02 a03 a11 a12 a13 a31 a32 a33, -D3 a01 a02 a03 a11 a12 a13 a21 a22 a23], [-D3 a10 a12 a13 a20 a22 a23 a30 a32 a33, D3 a00 a02 a03 a20 a22 a23 a30 a32 a33, -D3 a00 a02 a03 a10 a12 a13 a30 a32 a33, D3 a00 a02 a03 a10 a12 a13 a20 a22 a23], [D3 a10 a11 a13 a20 a21 a23 a30 a31 a33, -D3 a00 a01 a03 a20 a21 a23 a30 a31 a33, D3 a00 a01 a03 a10 a11 a13 a30 a31 a33, -D3 a00 a01 a03 a10 a11 a13 a20 a21 a23], [-D3 a10 a11 a12 a20 a21 a22 a30 a31 a32, D3 a00 a01 a02 a20 a21 a22 a30 a31 a32, -D3 a00 a01 a02 a10 a11 a12 a30 a31 a32, D3 a00 a01 a02 a10 a11 a12 a20 a21 a22]] [[a00, a01, a02, a03], [a10, a11, a12, a13], [a20, a21, a22, a23], [a30, a31, a32, a33]] 4 = scalM 4 (D4 a00 a01 a02 a03 a10 a11 a12 a13 a20 a21 a22 a23 a30 a31 a32 a33) := by
  show [[(D3 a11 a12 a13 a21 a22 a23 a31 a32 a33) * a00 + ((-D3 a01 a02 a03 a21 a22 a23 a31 a32 a33) * a10 + ((D3 a01 a02 a03 a11 a12 a13 a31 a32 a33) * a20 + ((-D3 a01 a02 a03 a11 a12 a13 a21 a22 a23) * a30 + 0))), (D3 a11 a12 a13 a21 a22 a23 a31 a32 a33) * a01 + ((-D3 a01 a02 a03 a21 a22 a23 a31 a32 a33) * a11 + ((D3 a01 a02 a03 a11 a12 a13 a31 a32 a33) * a21 + ((-D3 a01 a02 a03 a11 a12 a13 a21 a22 a23) * a31 + 0))), (D3 a11 a12 a13 a21 a22 a23 a31 a32 a33) * a02 + ((-D3 a01 a02 a03 a21 a22 a23 a31 a32 a33) * a12 + ((D3 a01 a02 a03 a11 a12 a13 a31 a32 a33) * a22 + ((-D3 a01 a02 a03 a11 a12 a13 a21 a22 a23) * a32 + 0))), (D3 a11 a12 a13 a21 a22 a23 a31 a32 a33) * a03 + ((-D3 a01 a02 a03 a21 a22 a23 a31 a32 a33) * a13 + ((D3 a01 a02 a03 a11 a12 a13 a31 a32 a33) * a23 + ((-D3 a01 a02 a03 a11 a12 a13 a21 a22 a23) * a33 + 0)))], [(-D3 a10 a12 a13 a20 a22 a23 a30 a32 a33) * a00 + ((D3 a00 a02 a03 a20 a22 a23 a30 a32 a33) * a10 + ((-D3 a00 a02 a03 a10 a12 a13 a30 a32 a33) * a20 + ((D3 a00 a02 a03 a10 a12 a13 a20 a22 a23) * a30 + 0))), (-D3 a10 a12 a13 a20 a22 a23 a30 a32 a33) * a01 + ((D3 a00 a02 a03 a20 a22 a23 a30 a32 a33) * a11 + ((-D3 a00 a02 a03 a10 a12 a13 a30 a32 a33) * a21 + ((D3 a00 a02 a03 a10 a12 a13 a20 a22 a23) * a31 + 0))), (-D3 a10 a12 a13 a20 a22 a23 a30 a32 a33) * a02 + ((D3 a00 a02 a03 a20 a22 a23 a30 a32 a33) * a12 + ((-D3 a00 a02 a03 a10 a12 a13 a30 a32 a33) * a22 + ((D3 a00 a02 a03 a10 a12 a13 a20 a22 a23) * a32 + 0))), (-D3 a10 a12 a13 a20 a22 a23 a30 a32 a33) * a03 + ((D3 a00 a02 a03 a20 a22 a23 a30 a32 a33) * a13 + ((-D3 a00 a02 a03 a10 a12 a13 a30 a32 a33) * a23 + ((D3 a00 a02 a03 a10 a12 a13 a20 a22 a23) * a33 + 0)))], [(D3 a10 a11 a13 a20 a21 a23 a30 a31 a33) * a00 + ((-D3 a00 a01 a03 a20 a21 a23 a30 a31 a33) * a10 + ((D3 a00 a01 a03 a10 a11 a13 a30 a31 a33) * a20 + ((-D3 a00 a01 a03 a10 a11 a13 a20 a21 a23) * a30 + 0))), (D3 a10 a11 a13 a20 a21 a23 a30 a31 a33) * a01 + ((-D3 a00 a01 a03 a20 a21 a23 a30 a31 a33) * a11 + ((D3 a00 a01 a03 a10 a11 a13 a30 a31 a33) * a21 + ((-D3 a00 a01 a03 a10 a11 a13 a20 a21 a23) * a31 + 0))), (D3 a10 a11 a13 a20 a21 a23 a30 a31 a33) * a02 + ((-D3 a00 a01 a03 a20 a21 a23 a30 a31 a33) * a12 + ((D3 a00 a01 a03 a10 a11 a13 a30 a31 a33) * a22 + ((-D3 a00 a01 a03 a10 a11 a13 a20 a21 a23) * a32 + 0))), (D3 a10 a11 a13 a20 a21 a23 a30 a31 a33) * a03 + ((-D3 a00 a01 a03 a20 a21 a23 a30 a31 a33) * a13 + ((D3 a00 a01 a03 a10 a11 a13 a30 a31 a33) * a23 + ((-D3 a00 a01 a03 a10 a11 a13 a20 a21 a23) * a33 + 0)))], [(-D3 a10 a11 a12 a20 a21 a22 a30 a31 a32) * a00 + ((D3 a00 a01 a02 a20 a21 a22 a30 a31 a32) * a10 + ((-D3 a00 a01 a02 a10 a11 a12 a30 a31 a32) * a20 + ((D3 a00 a01 a02 a10 a11 a12 a20 a21 a22) * a30 + 0))), (-D3 a10 a11 a12 a20 a21 a22 a30 a31 a32) * a01 + ((D3 a00 a01 a02 a20 a21 a22 a30 a31 a32) * a11 + ((-D3 a00 a01 a02 a10 a11 a12 a30 a31 a32) * a21 + ((D3 a00 a01 a02 a10 a11 a12 a20 a21 a22) * a31 + 0))), (-D3 a10 a11 a12 a20 a21 a22 a30 a31 a32) * a02 + ((D3 a00 a01 a02 a20 a21 a22 a30 a31 a32) * a12 + ((-D3 a00 a01 a02 a10 a11 a12 a30 a31 a32) * a22 + ((D3 a00 a01 a02 a10 a11 a12 a20 a21 a22) * a32 + 0))), (-D3 a10 a11 a12 a20 a21 a22 a30 a31 a32) * a03 + ((D3 a00 a01 a02 a20 a21 a22 a30 a31 a32) * a13 + ((-D3 a00 a01 a02 a10 a11 a12 a30 a31 a32) * a23 + ((D3 a00 a01 a02 a10 a11 a12 a20 a21 a22) * a33 + 0)))]] = _
  rw [scal_eq4]
  rw [adj4r00 a00 a01 a02 a03 a10 a11 a12 a13 a20 a21 a22 a23 a30 a31 a32 a33, adj4r01 a00 a01 a02 a03 a10 a11 a12 a13 a20 a21 a22 a23 a30 a31 a32 a33, adj4r02 a00 a01 a02 a03 a10 a11 a12 a13 a20 a21 a22 a23 a30 a31 a32 a33, adj4r03 a00 a01 a02 a03 a10 a11 a12 a13 a20 a21 a22 a23 a30 a31 a32 a33, adj4r10 a00 a01 a02 a03 a10 a11 a12 a13 a20 a21 a22 a23 a30 a31 a32 a33, adj4r11 a00 a01 a02 a03 a10 a11 a12 a13 a20 a21 a22 a23 a30 a31 a32 a33, adj4r12 a00 a01 a02 a03 a10 a11 a12 a13 a20 a21 a22 a23 a30 a31 a32 a33, adj4r13 a00 a01 a02 a03 a10 a11 a12 a13 a20 a21 a22 a23 a30 a31 a32 a33, adj4r20 a00 a01 a02 a03 a10 a11 a12 a13 a20 a21 a22 a23 a30 a31 a32 a33, adj4r21 a00 a01 a02 a03 a10 a11 a12 a13 a20 a21 a22 a23 a30 a31 a32 a33, adj4r22 a00 a01 a02 a03 a10 a11 a12 a13 a20 a21 a22 a23 a30 a31 a32 a33, adj4r23 a00 a01 a02 a03 a10 a11 a12 a13 a20 a21 a22 a23 a30 a31 a32 a33, adj4r30 a00 a01 a02 a03 a10 a11 a12 a13 a20 a21 a22 a23 a30 a31 a32 a33, adj4r31 a00 a01 a02 a03 a10 a11 a12 a13 a20 a21 a22 a23 a30 a31 a32 a33, adj4r32 a00 a01 a02 a03 a10 a11 a12 a13 a20 a21 a22 a23 a30 a31 a32 a33, adj4r33 a00 a01 a02 a03 a10 a11 a12 a13 a20 a21 a22 a23 a30 a31 a32 a33]

end
end K44
namespace K44
open PySem PySem.Spec PyProof.Rows L2 Gm
open C8 (Cal Met Mak pe_c pe_mt pe_mt0 pe_mk)
section
variable {P : Program} {w : World} {K : PySem.W.Frag} {mg : Str → Option Value} {base : Heap}
/-! ### what the law wants of determinants -/
theorem sz0 {m : List (List Int)} (h : Sz 0 m) : m = [] := List.eq_nil_of_length_eq_zero h.len
theorem mulM_sz {n : Nat} {a b : List (List Int)} (h : a.length = n) : Sz n (mulM a b n) := ⟨(mulM_len ..).trans h, mulM_row⟩
theorem transp_sz {n : Nat} {m : List (List Int)} (h : m.length = n) : Sz n (transp m n) := ⟨transp_len .., fun r hr => (transp_row r hr).trans h⟩
theorem det_mul {n : Nat} {a b : List (List Int)} (hn : n ≤ 4) (ha : Sz n a) (hb : Sz n b) : detL n (mulM a b n) = detL n a * detL n b := by
  match n, hn, ha, hb with
  | 0, _, _, _ => rfl
  | 1, _, ha, hb =>
    obtain ⟨x, rfl⟩ := sz1 ha
    obtain ⟨y, rfl⟩ := sz1 hb
    show detL 1 [[x * y + 0]] = _
    rw [detL1, detL1, detL1, Int.add_zero]
  | 2, _, ha, hb =>
    obtain ⟨_, _, _, _, rfl⟩ := sz2 ha
    obtain ⟨_, _, _, _, rfl⟩ := sz2 hb
    rw [mul_eq2, detL2, detL2, detL2, mulD2]
  | 3, _, ha, hb =>
    obtain ⟨_, _, _, _, _, _, _, _, _, rfl⟩ := sz3 ha
    obtain ⟨_, _, _, _, _, _, _, _, _, rfl⟩ := sz3 hb
    rw [mul_eq3, detL3, detL3, detL3, mulD3]
  | 4, _, ha, hb =>
    obtain ⟨_, _, _, _, _, _, _, _, _, _, _, _, _, _, _, _, rfl⟩ := sz4 ha
    obtain ⟨_, _, _, _, _, _, _, _, _, _, _, _, _, _, _, _, rfl⟩ := sz4 hb
    rw [mul_eq4, detL4, detL4, detL4, mulD4]
theorem det_tr {n : Nat} {m : List (List Int)} (hn : n ≤ 4) (h : Sz n m) : detL n (transp m n) = detL n m := by
  match n, hn, h with
  | 0, _, _ => rfl
  | 1, _, h =>
    obtain ⟨x, rfl⟩ := sz1 h
    rfl
  | 2, _, h =>
    obtain ⟨_, _, _, _, rfl⟩ := sz2 h
    rw [tr_eq2, detL2, detL2, trD2]
  | 3, _, h =>
    obtain ⟨_, _, _, _, _, _, _, _, _, rfl⟩ := sz3 h
    rw [tr_eq3, detL3, detL3, trD3]
  | 4, _, h =>
    obtain ⟨_, _, _, _, _, _, _, _, _, _, _, _, _, _, _, _, rfl⟩ := sz4 h
    rw [tr_eq4, detL4, detL4, trD4]
theorem mul_due {n : Nat} {m : List (List Int)} (hn : n ≤ 4) (h : Sz n m) : mulM m (dueM n m) n = scalM n (detL n m) := by
  match n, hn, h with
  | 0, _, h =>
    cases sz0 h
    rfl
  | 1, _, h =>
    obtain ⟨x, rfl⟩ := sz1 h
    show [[x * (sgn 0 * 1) + 0]] = [[detL 1 [[x]] * 1]]
    rw [detL1, sgn_even (show 0 % 2 = 0 from rfl), Int.add_zero, Int.one_mul]
  | 2, _, h =>
    obtain ⟨_, _, _, _, rfl⟩ := sz2 h
    rw [due_eq2, detL2, adjM2l]
  | 3, _, h =>
    obtain ⟨_, _, _, _, _, _, _, _, _, rfl⟩ := sz3 h
    rw [due_eq3, detL3, adjM3l]
  | 4, _, h =>
    obtain ⟨_, _, _, _, _, _, _, _, _, _, _, _, _, _, _, _, rfl⟩ := sz4 h
    rw [due_eq4, detL4, adjM4l]
theorem due_mul {n : Nat} {m : List (List Int)} (hn : n ≤ 4) (h : Sz n m) : mulM (dueM n m) m n = scalM n (detL n m) := by
  match n, hn, h with
  | 0, _, h =>
    cases sz0 h
    rfl
  | 1, _, h =>
    obtain ⟨x, rfl⟩ := sz1 h
    show [[(sgn 0 * 1) * x + 0]] = [[detL 1 [[x]] * 1]]
    rw [detL1, sgn_even (show 0 % 2 = 0 from rfl), Int.add_zero, Int.one_mul, Int.one_mul, Int.mul_one]
  | 2, _, h =>
    obtain ⟨_, _, _, _, rfl⟩ := sz2 h
    rw [due_eq2, detL2, adjM2r]
  | 3, _, h =>
    obtain ⟨_, _, _, _, _, _, _, _, _, rfl⟩ := sz3 h
    rw [due_eq3, detL3, adjM3r]
  | 4, _, h =>
    obtain ⟨_, _, _, _, _, _, _, _, _, _, _, _, _, _, _, _, rfl⟩ := sz4 h
    rw [due_eq4, detL4, adjM4r]
theorem due_len (n : Nat) (m : List (List Int)) : (dueM n m).length = n := by
  unfold dueM
  rw [List.length_map, List.length_range]
theorem due_row {n : Nat} {m : List (List Int)} : ∀ r ∈ dueM n m, r.length = n := fun r hr => by
  unfold dueM at hr
  obtain ⟨i, _, rfl⟩ := List.mem_map.mp hr
  rw [List.length_map, List.length_range]

end
end K44
namespace K44
open PySem PySem.Spec PyProof.Rows L2 Gm
open C8 (Cal Met Mak pe_c pe_mt pe_mt0 pe_mk)
section
variable {P : Program} {w : World} {K : PySem.W.Frag} {mg : Str → Option Value} {base : Heap}
theorem nat_le_max {a b : Int} {B : Nat} (ha : a.natAbs < 2 ^ B) (hb : b.natAbs < 2 ^ B) {z : Int} (h : z.natAbs ≤ a.natAbs ∨ z.natAbs ≤ b.natAbs) : z.natAbs < 2 ^ B := by
  rcases h with h | h <;> omega
/-- the state of the division algorithm -/
structure CofI (A B last lu lv g u v : Int) : Prop where
  l0 : 0 < last
  g0 : 0 ≤ g
  el : last = lu * A + lv * B
  eg : g = u * A + v * B
  gc : Nat.gcd last.toNat g.toNat = Nat.gcd A.toNat B.toNat
  bu : (u.natAbs : Int) * last + (lu.natAbs : Int) * g ≤ B
  bl : (lu.natAbs : Int) ≤ B
  cv : (v.natAbs : Int) * last + (lv.natAbs : Int) * g ≤ A
  cl : (lv.natAbs : Int) ≤ A
  mx : last ≤ max A B
  gx : g ≤ max A B
theorem abs_sub_mul (x t y : Int) (ht : 0 ≤ t) : ((x - t * y).natAbs : Int) ≤ (x.natAbs : Int) + t * (y.natAbs : Int) := by
  have h1 := Int.natAbs_sub_le x (t * y)
  rw [Int.natAbs_mul] at h1
  have h2 : ((t.natAbs * y.natAbs : Nat) : Int) = t * (y.natAbs : Int) := by
    rw [Int.natCast_mul]
    rw [show ((t.natAbs : Nat) : Int) = t by omega]
  omega
theorem CofI.step {A B last lu lv g u v : Int} (h : CofI A B last lu lv g u v) (hg : 0 < g) : CofI A B g u v (last - last / g * g) (lu - last / g * u) (lv - last / g * v) := by
  have t0 : 0 ≤ last / g := Int.ediv_nonneg (Int.le_of_lt h.l0) h.g0
  have em := Int.emod_def last g
  have m0 := Int.emod_nonneg last (show g ≠ 0 by omega)
  have m1 := Int.emod_lt_of_pos last hg
  rw [Int.mul_comm] at em
  rw [← em]
  generalize hq : last / g = t at *
  have hl := h.l0
  refine ⟨hg, m0, h.eg, ?_, ?_, ?_, ?_, ?_, ?_, h.gx, by have := h.gx; omega⟩
  · rw [em]
    have e1 := h.el
    have e2 := h.eg
    generalize last % g = r at *
    rw [e1, e2]
    grind
  · rw [← h.gc, Int.emod_def]
    have e3 : (last % g).toNat = last.toNat % g.toNat := by
      obtain ⟨p, hp⟩ : ∃ p : Nat, last = p := ⟨last.toNat, by omega⟩
      obtain ⟨q, hq'⟩ : ∃ q : Nat, g = q := ⟨g.toNat, by omega⟩
      rw [hp, hq', ← Int.natCast_emod]
      rfl
    rw [← Int.emod_def, e3, Nat.gcd_comm g.toNat, ← Nat.gcd_rec, Nat.gcd_comm]
  · have h1 := abs_sub_mul lu t u t0
    have h2 : ((lu - t * u).natAbs : Int) * g ≤ ((lu.natAbs : Int) + t * (u.natAbs : Int)) * g := Int.mul_le_mul_of_nonneg_right h1 h.g0
    have h3 := h.bu
    have h4 : (u.natAbs : Int) * (last % g) = (u.natAbs : Int) * last - t * (u.natAbs : Int) * g := by rw [em]; grind
    rw [h4]
    have h5 : ((lu.natAbs : Int) + t * (u.natAbs : Int)) * g = (lu.natAbs : Int) * g + t * (u.natAbs : Int) * g := by grind
    omega
  · have h3 := h.bu
    have h4 : 0 ≤ (lu.natAbs : Int) * g := Int.mul_nonneg (by omega) h.g0
    have h5 : (u.natAbs : Int) * 1 ≤ (u.natAbs : Int) * last := Int.mul_le_mul_of_nonneg_left (by omega) (by omega)
    omega
  · have h1 := abs_sub_mul lv t v t0
    have h2 : ((lv - t * v).natAbs : Int) * g ≤ ((lv.natAbs : Int) + t * (v.natAbs : Int)) * g := Int.mul_le_mul_of_nonneg_right h1 h.g0
    have h3 := h.cv
    have h4 : (v.natAbs : Int) * (last % g) = (v.natAbs : Int) * last - t * (v.natAbs : Int) * g := by rw [em]; grind
    rw [h4]
    have h5 : ((lv.natAbs : Int) + t * (v.natAbs : Int)) * g = (lv.natAbs : Int) * g + t * (v.natAbs : Int) * g := by grind
    omega
  · have h3 := h.cv
    have h4 : 0 ≤ (lv.natAbs : Int) * g := Int.mul_nonneg (by omega) h.g0
    have h5 : (v.natAbs : Int) * 1 ≤ (v.natAbs : Int) * last := Int.mul_le_mul_of_nonneg_left (by omega) (by omega)
    omega
theorem CofI.start {a b : Int} (ha : a ≠ 0) (hb : b ≠ 0) : CofI a.natAbs b.natAbs b.natAbs 0 1 a.natAbs 1 0 := by
  refine ⟨by omega, by omega, by omega, by omega, ?_, ?_, by show ((0 : Nat) : Int) ≤ _; omega, ?_, by show ((1 : Nat) : Int) ≤ _; omega, by omega, by omega⟩
  · rw [Int.toNat_natCast, Int.toNat_natCast, Nat.gcd_comm]
  · show ((1 : Nat) : Int) * _ + ((0 : Nat) : Int) * _ ≤ _
    omega
  · show ((0 : Nat) : Int) * _ + ((1 : Nat) : Int) * _ ≤ _
    omega
theorem CofI.done {a b last lu lv u v : Int} (h : CofI a.natAbs b.natAbs last lu lv 0 u v) : Cof a b last (if a < 0 then -lu else lu) (if b < 0 then -lv else lv) := by
  have hl := h.l0
  have hg : last.toNat = Nat.gcd a.natAbs b.natAbs := by
    have := h.gc
    rw [show (0 : Int).toNat = 0 from rfl, Nat.gcd_zero_right, Int.toNat_natCast, Int.toNat_natCast] at this
    exact this
  have hl2 : last = ((Nat.gcd a.natAbs b.natAbs : Nat) : Int) := by omega
  refine ⟨hl, ?_, ?_, ?_, ?_, ?_⟩
  · have e := h.el
    have ea : ((a.natAbs : Nat) : Int) = if a < 0 then -a else a := by split <;> omega
    have eb : ((b.natAbs : Nat) : Int) = if b < 0 then -b else b := by split <;> omega
    rw [ea, eb] at e
    rw [e]
    split <;> split <;> grind
  · rw [hl2]
    exact Int.ofNat_dvd_left.mpr (Nat.gcd_dvd_left ..)
  · rw [hl2]
    exact Int.ofNat_dvd_left.mpr (Nat.gcd_dvd_right ..)
  · have := h.bl
    split <;> omega
  · have := h.cl
    split <;> omega
def sp_cofactors (K : PySem.W.Frag) : Sp := fun vs H Q _ => ∃ (a b : Int) (B : Nat), vs = [.int a, .int b] ∧ a ≠ 0 ∧ b ≠ 0 ∧ a.natAbs < 2 ^ B ∧ b.natAbs < 2 ^ B ∧ B ≤ 60000000 ∧ ∀ t g u v H', Same H H' → Cof a b g u v → SqT K H' t [.int g, .int u, .int v] → Q (.ref t) H'
def muC : L2.St → Hp → Nat
  | [_, _, _, _, _, some (.int g), _, _, _], _ => g.toNat
  | _, _ => 0
theorem ok_cofactors (T : Top K mg) (hN : base.NoSeer) (hT : P.given.tree = none) : FnOk P w K mg base CX0 41 T.a_cofactors T.d_cofactors ["a", "b"] (sp_cofactors K) := by
  refine T.F_cofactors.ok sc_cofactors (fun vs H Q E h => ?_) (fun cdv A outer s H vs Q E hr h => ?_)
  · obtain ⟨a, b, B, rfl, _⟩ := h
    rfl
  · obtain ⟨a, b, B, rfl, ha, hb, ba, bb, hB, q⟩ := h
    refine ⟨_, (pss_cons (ps_par3 (i := 2) (j := 3) (l := 4) (by rfl) sc_cofactors.nd rfl rfl rfl (by decide) (by decide) (by decide) rfl rfl rfl (pa_cons (pe_callB (call_abs) (by rfl) T.z_abs (by decide +kernel) (pa_cons (pv 1) pa_nil)) (pa_cons pe_int (pa_cons pe_int pa_nil))) (by rfl))
      (pss_cons (ps_par3 (i := 5) (j := 6) (l := 7) (by rfl) sc_cofactors.nd rfl rfl rfl (by decide) (by decide) (by decide) rfl rfl rfl (pa_cons (pe_callB (call_abs) (by rfl) T.z_abs (by decide +kernel) (pa_cons (pv 0) pa_nil)) (pa_cons pe_int (pa_cons pe_int pa_nil))) (by rfl))
      (pss_cons (ps_while PassesOwn.never (pt_truth (pv 5) (by intro _; rfl))
      (pss_cons (ps_set (i := 8) sc_cofactors.nd rfl (by first | exact .inl rfl | exact .inr rfl) (pe_op (op_fdivQ hN rfl rfl rfl rfl rfl hT (room100 hr (by decide))) (pv 2) (pv 5)))
      (pss_cons (ps_par (i := 2) (j := 5) (by rfl) sc_cofactors.nd rfl rfl (by decide) rfl rfl (pa_cons (pv 5) (pa_cons (pe_op op_sub (pv 2) (pe_op op_mulX (pv 8) (pv 5))) pa_nil)) (by rfl))
      (pss_cons (ps_par (i := 3) (j := 6) (by rfl) sc_cofactors.nd rfl rfl (by decide) rfl rfl (pa_cons (pv 6) (pa_cons (pe_op op_sub (pv 3) (pe_op op_mulX (pv 8) (pv 6))) pa_nil)) (by rfl))
      (pss_one (ps_par (i := 4) (j := 7) (by rfl) sc_cofactors.nd rfl rfl (by decide) rfl rfl (pa_cons (pv 7) (pa_cons (pe_op op_sub (pv 4) (pe_op op_mulX (pv 8) (pv 7))) pa_nil)) (by rfl)))))))
      (pss_one (ps_ret (pe_tup (pa_cons (pv 2) (pa_cons (pe_ifExp (pt_cmpR op_lt (pv 0) pe_int (nomark _)) (pe_un un_neg (pv 3)) (pv 3)) (pa_cons (pe_ifExp (pt_cmpR op_lt (pv 1) pe_int (nomark _)) (pe_un un_neg (pv 4)) (pv 4)) pa_nil))))))))), ?_⟩
    have ab : ∀ z : Int, (if z < 0 then -z else z) = ((z.natAbs : Nat) : Int) := fun z => by split <;> omega
    refine ⟨_, rfl, b, rfl, ?_⟩
    rw [ab]
    refine ⟨_, _, _, rfl, ?_⟩
    refine ⟨_, rfl, a, rfl, ?_⟩
    rw [ab]
    refine ⟨_, _, _, rfl, ?_⟩
    dsimp only
    have nA : (a.natAbs : Int).natAbs < 2 ^ B := by rw [Int.natAbs_natCast]; exact ba
    have nB : (b.natAbs : Int).natAbs < 2 ^ B := by rw [Int.natAbs_natCast]; exact bb
    refine while_by (fun σ H2 => H2 = H ∧ ∃ (last lu lv g u v : Int) (y8 : Option V), σ = [some (.int a), some (.int b), some (.int last), some (.int lu), some (.int lv), some (.int g), some (.int u), some (.int v), y8] ∧ CofI a.natAbs b.natAbs last lu lv g u v) muC ⟨rfl, _, _, _, _, _, _, _, rfl, CofI.start ha hb⟩ ?_ ?_
    · rintro σ H2 ⟨rfl, last, lu, lv, g, u, v, y8, rfl, I⟩
      have l0 := I.l0
      have g0 := I.g0
      have bnd : ∀ z : Int, z.natAbs ≤ a.natAbs ∨ z.natAbs ≤ b.natAbs → z.natAbs < 2 ^ B := fun z hz => by rcases hz with h | h <;> omega
      refine ⟨_, rfl, g != 0, rfl, ?_⟩
      by_cases hg : g = 0
      · subst hg
        refine iteF ?_
        have cf := I.done
        refine ⟨_, rfl, _, rfl, _, _, rfl, rfl, _, rfl, ?_⟩
        by_cases h1 : a < 0
        · rw [if_pos h1] at cf
          rw [decide_eq_true h1]
          refine iteT ?_
          refine ⟨_, rfl, _, rfl, _, rfl, _, _, rfl, rfl, _, rfl, ?_⟩
          by_cases h2 : b < 0
          · rw [if_pos h2] at cf
            rw [decide_eq_true h2]
            refine iteT ?_
            refine ⟨_, rfl, _, rfl, by show 3 ≤ sizeLine; decide, fun t nt => ?_⟩
            exact q t _ _ _ _ (same_upd nt) cf (.inl (.inl upd_same))
          · rw [if_neg h2] at cf
            rw [decide_eq_false h2]
            refine iteF ?_
            refine ⟨_, rfl, by show 3 ≤ sizeLine; decide, fun t nt => ?_⟩
            exact q t _ _ _ _ (same_upd nt) cf (.inl (.inl upd_same))
        · rw [if_neg h1] at cf
          rw [decide_eq_false h1]
          refine iteF ?_
          refine ⟨_, rfl, _, rfl, _, _, rfl, rfl, _, rfl, ?_⟩
          by_cases h2 : b < 0
          · rw [if_pos h2] at cf
            rw [decide_eq_true h2]
            refine iteT ?_
            refine ⟨_, rfl, _, rfl, by show 3 ≤ sizeLine; decide, fun t nt => ?_⟩
            exact q t _ _ _ _ (same_upd nt) cf (.inl (.inl upd_same))
          · rw [if_neg h2] at cf
            rw [decide_eq_false h2]
            refine iteF ?_
            refine ⟨_, rfl, by show 3 ≤ sizeLine; decide, fun t nt => ?_⟩
            exact q t _ _ _ _ (same_upd nt) cf (.inl (.inl upd_same))
      · rw [show (g != 0) = true from bne_iff_ne.mpr hg]
        refine iteT ?_
        have g1 : 0 < g := by omega
        have J := I.step g1
        have mx := I.mx
        have gx := I.gx
        have bg : g.natAbs < 2 ^ B := bnd g (by omega)
        have bt : (last / g).natAbs < 2 ^ B := Nat.lt_of_le_of_lt (Int.natAbs_ediv_le_natAbs _ _) (bnd last (by omega))
        have bu : u.natAbs < 2 ^ B := bnd u (by have := J.bl; omega)
        have bv : v.natAbs < 2 ^ B := bnd v (by have := J.cl; omega)
        refine ⟨_, rfl, _, rfl, last, g, rfl, rfl, hg, ?_⟩
        have ef := Int.fdiv_eq_ediv_of_nonneg last g0
        rw [← ef] at J bt
        refine ⟨_, rfl, _, rfl, _, rfl, _, rfl, _, _, rfl, rfl, mulx_ok bt bg (by omega), _, _, rfl, rfl, _, _, rfl, ?_⟩
        refine ⟨_, rfl, _, rfl, _, rfl, _, rfl, _, _, rfl, rfl, mulx_ok bt bu (by omega), _, _, rfl, rfl, _, _, rfl, ?_⟩
        refine ⟨_, rfl, _, rfl, _, rfl, _, rfl, _, _, rfl, rfl, mulx_ok bt bv (by omega), _, _, rfl, rfl, _, _, rfl, ?_⟩
        refine ⟨⟨rfl, _, _, _, _, _, _, _, rfl, J⟩, ?_⟩
        show (last - last.fdiv g * g).toNat < g.toNat
        rw [ef]
        have em := Int.emod_def last g
        rw [Int.mul_comm] at em
        rw [← em]
        have m0 := Int.emod_nonneg last (show g ≠ 0 by omega)
        have m1 := Int.emod_lt_of_pos last g1
        omega
    · intro σ H Q1 Q2 h1 ⟨v, ev, k, ek, h2⟩
      exact ⟨v, ev, k, ek, h1 _ _ h2⟩
theorem cal_cofactors (T : Top K mg) (hN : base.NoSeer) (hT : P.given.tree = none) : Cal P w K mg base 41 "cofactors" (sp_cofactors K) [] := ⟨⟨_, _, _, [], ok_cofactors T hN hT, T.g_cofactors, T.F_cofactors.kp, T.b_cofactors, .nil⟩⟩

end
end K44
namespace K44
open PySem PySem.Spec PyProof.Rows L2 Gm
open C8 (Cal Met Mak pe_c pe_mt pe_mt0 pe_mk)
section
variable {P : Program} {w : World} {K : PySem.W.Frag} {mg : Str → Option Value} {base : Heap}
theorem cost_bits {c : Nat} {r : List Int} (h : Cost c r) : Bits c r := fun x hx => by have := h x hx; omega
theorem cost_at {c : Nat} {r : List Int} (h : Cost c r) (j : Nat) : (r.getD j 0).natAbs < 2 ^ c := by have := h.at j; omega
theorem TRow.offD {K : PySem.W.Frag} {H H' : Hp} {d : Addr} {kvs : List (Key × V)} {v : V} {r : List Int} (e : H d = some (.dK kvs)) (o : ∀ b x, b ≠ d → H b = some x → H' b = some x) (h : TRow K H v r) : TRow K H' v r := by
  obtain ⟨b, eb, hb⟩ := h
  refine ⟨b, eb, ?_⟩
  rcases hb with (hb | ⟨x, hb⟩) | hb
  · exact .inl (.inl (o _ _ (ne_of hb e (by intro z; cases z)) hb))
  · exact .inl (.inr ⟨x, o _ _ (ne_of hb e (by intro z; cases z)) hb⟩)
  · exact .inr hb
theorem at_getD {r : List Int} {j : Nat} {z : Int} (e : z = (j : Int)) (h : j < r.length) : atI (r.map V.int) z = some (.int (r.getD j 0)) :=
  at_of e (ints_at (by rw [List.getD_eq_getElem?_getD, List.getElem?_eq_getElem h]; rfl))
def sp_mixed (K : PySem.W.Frag) : Sp := fun vs H Q _ => ∃ (a b : Int) (v1 v2 : V) (x y : List Int) (A B C E : Nat), vs = [.int a, v1, .int b, v2] ∧ TRow K H v1 x ∧ TRow K H v2 y ∧ x.length = y.length ∧ x.length ≤ 1000 ∧ a.natAbs < 2 ^ A ∧ Bits B x ∧ b.natAbs < 2 ^ C ∧ Bits E y ∧ A + B ≤ 134217728 ∧ C + E ≤ 134217728 ∧
  ∀ v H', Same H H' → TRow K H' v (mixR a x b y) → Q v H'
theorem ok_mixed (T : Top K mg) (hN : base.NoSeer) (hT : P.given.tree = none) : FnOk P w K mg base CX0 1 T.a_mixed T.d_mixed ["a", "first", "b", "second"] (sp_mixed K) := by
  refine T.F_mixed.ok sc_mixed (fun vs H Q E h => ?_) (fun cdv A outer s H vs Q E hr h => ?_)
  · obtain ⟨a, b, v1, v2, x, y, A, B, C, E, rfl, _⟩ := h
    rfl
  · obtain ⟨a, b, v1, v2, x, y, BA, BB, BC, BE, rfl, ⟨p1, rfl, h1⟩, ⟨p2, rfl, h2⟩, hl, hl2, ba, bx, bb, bY, hAB, hCE, q⟩ := h
    refine ⟨_, (pss_one (ps_ret (pe_callTy (tupK K rfl) (by rfl) T.z_tuple (by decide +kernel) (pa_cons (pe_lc (own := [("x", 4), ("y", 5)]) (g := (gTup K 2 (gCons (gName 4) (gCons (gName 5) gNil)))) (by rfl) sc_mixed.nd (RZ.pi_zipA (by rfl) T.z_zip (pa_cons (pv 1) (pa_cons (pv 3) pa_nil))) ((by show BlkOk ["a", "first", "b", "second", "x", "y"] (defScope s_mixed) _ _; exact blkOk_by (by decide +kernel))) (fun _ _ _ _ _ => (pg_tup rfl (pgs_cons (pg_name (i := 4) sc_mixed.nd rfl (by first | exact .inl rfl | exact .inr rfl)) (pgs_cons (pg_name (i := 5) sc_mixed.nd rfl (by first | exact .inl rfl | exact .inr rfl)) pgs_nil)))) (fun _ _ _ _ _ => pts_nil) (fun _ _ _ _ _ => (pe_op op_add (pe_op op_mulX (pv 0) (pv 4)) (pe_op op_mulX (pv 2) (pv 5))))) pa_nil)))), ?_⟩
    refine ⟨_, rfl, _, rfl, p1, p2, _, _, rfl, .inr ⟨h1, h2, fun D hD => ?_⟩⟩
    have W : Walk (RZ.ItzT K p1 p2) x.length (fun H => SqT K H p1 (x.map V.int) ∧ SqT K H p2 (y.map V.int)) (YPair (fun i => (x.map V.int)[i]?) (fun i => (y.map V.int)[i]?)) := walk_zipT (by rw [List.length_map, List.length_map, hl, Nat.min_self])
    refine lc_all W hD hl2 (fun H4 s4 => ⟨Same.seqT s4 h1, Same.seqT s4 h2⟩) (fun i v _ => ∃ z, (mixR a x b y)[i]? = some z ∧ v = .int z) (fun _ _ _ _ _ _ _ h => h) ?_ gm_pair ?_
    · rintro i z H4 H4' acc Ko hi s4 eD ⟨U, x1, x2, rfl, nU, rfl, e1, e2⟩ k
      obtain ⟨z1, ez1, rfl⟩ := ints_get e1
      obtain ⟨z2, ez2, rfl⟩ := ints_get e2
      refine g_pair nU ⟨rfl, ?_⟩
      refine ⟨_, rfl, _, rfl, _, _, rfl, rfl, mulx_ok ba (bx.at ez1) hAB, ?_⟩
      refine ⟨_, rfl, _, rfl, _, _, rfl, rfl, mulx_ok bb (bY.at ez2) hCE, ?_⟩
      refine ⟨_, _, rfl, rfl, ?_⟩
      refine k _ _ (same_upd nU) ⟨a * z1 + b * z2, ?_, rfl⟩
      unfold mixR
      rw [List.getElem?_zipWith, ez1, ez2]
    · intro H4 l s4 eD hpl
      have el := ints_list (by rw [mixR_len rfl hl.symm]) hpl
      subst el
      refine ⟨D, _, rfl, .inl ⟨.inl (.inl eD), fun t nt => ?_⟩⟩
      exact q _ _ (s4.trans (same_upd nt)) ⟨t, rfl, .inl (.inl upd_same)⟩
theorem cal_mixed (T : Top K mg) (hN : base.NoSeer) (hT : P.given.tree = none) : Cal P w K mg base 1 "mixed" (sp_mixed K) [] := ⟨⟨_, _, _, [], ok_mixed T hN hT, T.g_mixed, T.F_mixed.kp, T.b_mixed, .nil⟩⟩
def sp_merged (K : PySem.W.Frag) : Sp := fun vs H Q _ => ∃ (v1 v2 : V) (t r : List Int) (w j A C : Nat), vs = [v1, v2, .int (0 + (j : Int))] ∧ TRow K H v1 t ∧ TRow K H v2 r ∧ t.length = w ∧ r.length = w ∧ w ≤ 1000 ∧ j < w ∧ t.getD j 0 ≠ 0 ∧ r.getD j 0 ≠ 0 ∧ Cost A t ∧ Cost C r ∧ A ≤ 60000000 ∧ C ≤ 60000000 ∧
  ∀ tp v3 v4 g u v H', Same H H' → Cof (t.getD j 0) (r.getD j 0) g u v → SqT K H' tp [v3, v4] → TRow K H' v3 (mixR u t v r) → TRow K H' v4 (mixR (t.getD j 0 / g) r (-(r.getD j 0 / g)) t) → Q (.ref tp) H'
theorem ok_merged (T : Top K mg) (hN : base.NoSeer) (hT : P.given.tree = none) : FnOk P w K mg base CX0 43 T.a_merged T.d_merged ["top", "row", "column"] (sp_merged K) := by
  refine T.F_merged.ok sc_merged (fun vs H Q E h => ?_) (fun cdv A outer s H vs Q E hr h => ?_)
  · obtain ⟨v1, v2, t, r, w, j, A, C, rfl, _⟩ := h
    rfl
  · obtain ⟨v1, v2, t, r, w, j, CA, CC, rfl, ⟨p1, rfl, h1⟩, ⟨p2, rfl, h2⟩, lt, lr, hw, hj, ht, hrn, ca, cc, hA, hC, q⟩ := h
    refine ⟨_, (pss_cons (ps_asg (pe_c (cal_cofactors T hN hT) hr (by decide) (by rfl) (pa_cons (pe_ix (ixT K rfl) (pv 0) (pv 2) (fun _ _ => rfl)) (pa_cons (pe_ix (ixT K rfl) (pv 1) (pv 2) (fun _ _ => rfl)) pa_nil))) (pg_tup rfl (pgs_cons (pg_name (i := 3) sc_merged.nd rfl (by first | exact .inl rfl | exact .inr rfl)) (pgs_cons (pg_name (i := 4) sc_merged.nd rfl (by first | exact .inl rfl | exact .inr rfl)) (pgs_cons (pg_name (i := 5) sc_merged.nd rfl (by first | exact .inl rfl | exact .inr rfl)) pgs_nil)))))
      (pss_one (ps_ret (pe_tup (pa_cons (pe_c (cal_mixed T hN hT) hr (by decide) (by rfl) (pa_cons (pv 4) (pa_cons (pv 0) (pa_cons (pv 5) (pa_cons (pv 1) pa_nil))))) (pa_cons (pe_c (cal_mixed T hN hT) hr (by decide) (by rfl) (pa_cons (pe_op (op_fdivQ hN rfl rfl rfl rfl rfl hT (room100 hr (by decide))) (pe_ix (ixT K rfl) (pv 0) (pv 2) (fun _ _ => rfl)) (pv 3)) (pa_cons (pv 1) (pa_cons (pe_un un_neg (pe_op (op_fdivQ hN rfl rfl rfl rfl rfl hT (room100 hr (by decide))) (pe_ix (ixT K rfl) (pv 1) (pv 2) (fun _ _ => rfl)) (pv 3))) (pa_cons (pv 0) pa_nil))))) pa_nil)))))), ?_⟩
    have a1 := cost_at ca j
    have a2 := cost_at cc j
    have up : ∀ {z : Int}, z.natAbs < 2 ^ CA ∨ z.natAbs < 2 ^ CC → z.natAbs < 2 ^ (max CA CC) := fun {z} h => by
      rcases h with h | h
      · exact Nat.lt_of_lt_of_le h (Nat.pow_le_pow_right (by decide) (Nat.le_max_left ..))
      · exact Nat.lt_of_lt_of_le h (Nat.pow_le_pow_right (by decide) (Nat.le_max_right ..))
    refine ⟨_, rfl, _, rfl, p1, _, _, _, rfl, rfl, h1, at_getD (j := j) (by omega) (by omega), _, rfl, _, rfl, p2, _, _, _, rfl, rfl, h2, at_getD (j := j) (by omega) (by omega), t.getD j 0, r.getD j 0, max CA CC, rfl, ht, hrn, up (.inl a1), up (.inr a2), by omega, fun tc g u v H1 s1 cf hc => ?_⟩
    refine ⟨tc, _, rfl, hc, rfl, _, _, rfl, _, _, rfl, _, _, rfl, rfl, ?_⟩
    have g0 := cf.pos
    have h1' := Same.seqT s1 h1
    have h2' := Same.seqT s1 h2
    have ub := cf.ub
    have vb := cf.vb
    refine ⟨_, rfl, _, rfl, _, rfl, _, rfl, u, v, .ref p1, .ref p2, t, r, CC, CA, CA, CC, rfl, ⟨p1, rfl, h1'⟩, ⟨p2, rfl, h2'⟩, by omega, by omega, by omega, cost_bits ca, by omega, cost_bits cc, by omega, by omega, fun v3 H2 s2 h3 => ?_⟩
    have h12 := Same.seqT s2 h1'
    have h22 := Same.seqT s2 h2'
    refine ⟨_, rfl, _, rfl, p1, _, _, _, rfl, rfl, h12, at_getD (j := j) (by omega) (by omega), _, rfl, _, _, rfl, rfl, by omega, ?_⟩
    have e1 := Int.fdiv_eq_ediv_of_nonneg (t.getD j 0) (Int.le_of_lt g0)
    have e2 := Int.fdiv_eq_ediv_of_nonneg (r.getD j 0) (Int.le_of_lt g0)
    have b1 : ((t.getD j 0).fdiv g).natAbs < 2 ^ CA := by rw [e1]; exact Nat.lt_of_le_of_lt (Int.natAbs_ediv_le_natAbs _ _) a1
    have b2 : (-((r.getD j 0).fdiv g)).natAbs < 2 ^ CC := by rw [e2, Int.natAbs_neg]; exact Nat.lt_of_le_of_lt (Int.natAbs_ediv_le_natAbs _ _) a2
    refine ⟨_, rfl, _, rfl, _, rfl, p2, _, _, _, rfl, rfl, h22, at_getD (j := j) (by omega) (by omega), _, rfl, _, _, rfl, rfl, by omega, _, rfl, ?_⟩
    refine ⟨_, rfl, _, _, .ref p2, .ref p1, r, t, CA, CC, CC, CA, rfl, ⟨p2, rfl, h22⟩, ⟨p1, rfl, h12⟩, by omega, by omega, b1, cost_bits cc, b2, cost_bits ca, by omega, by omega, fun v4 H3 s3 h4 => ?_⟩
    refine ⟨by show 2 ≤ sizeLine; decide, fun tp ntp => ?_⟩
    have s4 := same_upd (o := .tup [v3, v4]) ntp
    rw [e1, e2] at h4
    exact q tp v3 v4 g u v _ (s1.trans (s2.trans (s3.trans s4))) cf (.inl (.inl upd_same)) (TRow.same (s3.trans s4) h3) (TRow.same s4 h4)
theorem cal_merged (T : Top K mg) (hN : base.NoSeer) (hT : P.given.tree = none) : Cal P w K mg base 43 "merged" (sp_merged K) [] := ⟨⟨_, _, _, [], ok_merged T hN hT, T.g_merged, T.F_merged.kp, T.b_merged, .nil⟩⟩
def CostL : Tops → List Nat → Prop
  | [], cs => cs = []
  | p :: T, c :: cs => Cost c p.2 ∧ CostL T cs
  | _ :: _, [] => False
def sp_reduced (K : PySem.W.Frag) : Sp := fun vs H Q _ => ∃ (v : V) (a : Addr) (row : List Int) (T : Tops) (w ρ : Nat) (cs : List Nat), vs = [v, .ref a] ∧ TRow K H v row ∧ DT K H a T ∧ Ech w T ∧ row.length = w ∧ w ≤ 1000 ∧ T.length ≤ 10 ∧ Cost ρ row ∧ CostL T cs ∧ ρ + cs.sum ≤ 134217728 ∧ ∀ v' H', Same H H' → TRow K H' v' (redT T row) → Q v' H'
theorem CostL.split {T : Tops} : ∀ {cs : List Nat} {i : Nat} {p : Nat × List Int}, CostL T cs → T[i]? = some p → ∃ c, cs[i]? = some c ∧ Cost c p.2 := by
  induction T with
  | nil => intro cs i p _ h; simp at h
  | cons q T ih =>
    intro cs i p hc h
    match cs, i, hc, h with
    | c :: cs, 0, hc, h =>
      obtain rfl : q = p := by simpa using h
      exact ⟨c, rfl, hc.1⟩
    | c :: cs, i + 1, hc, h =>
      obtain ⟨c', e, k⟩ := ih (cs := cs) (i := i) hc.2 (by simpa using h)
      exact ⟨c', by simpa using e, k⟩
theorem CostL.len : ∀ {T : Tops} {cs : List Nat}, CostL T cs → cs.length = T.length
  | [], cs, h => by rw [show cs = [] from h]; rfl
  | p :: T, c :: cs, h => by rw [List.length_cons, List.length_cons, CostL.len h.2]
theorem sum_take_le (cs : List Nat) : ∀ i, (cs.take i).sum ≤ cs.sum := by
  induction cs with
  | nil => intro i; simp
  | cons c cs ih =>
    intro i
    cases i with
    | zero => simp
    | succ i => have := ih i; simp only [List.take_succ_cons, List.sum_cons]; omega
theorem redT_take {T : Tops} {row : List Int} {i : Nat} {p : Nat × List Int} (h : T[i]? = some p) : redT (T.take (i + 1)) row = red1 p (redT (T.take i) row) := by
  rw [List.take_add_one, h, redT_app]
  rfl
theorem ok_reduced (T : Top K mg) (hN : base.NoSeer) (hT : P.given.tree = none) : FnOk P w K mg base CX0 41 T.a_reduced T.d_reduced ["row", "tops"] (sp_reduced K) := by
  refine T.F_reduced.ok sc_reduced (fun vs H Q E h => ?_) (fun cdv A outer s H vs Q E hr h => ?_)
  · obtain ⟨v, a, row, TT, w, ρ, cs, rfl, _⟩ := h
    rfl
  · obtain ⟨v, a, row, TT, w, ρ, cs, rfl, hv, hd, ech, lr, hw, lT, cr, cl, hB, q⟩ := h
    have lcs := cl.len
    refine ⟨_, (pss_cons (ps_for PassesOwn.never rfl (piS K rfl (pe_callB (call_sortedDI rfl) (by rfl) T.z_sorted (by decide +kernel) (pa_cons (pv 1) pa_nil))) (pg_name (i := 2) sc_reduced.nd rfl (by first | exact .inl rfl | exact .inr rfl))
      (pss_cons (ps_set (i := 3) sc_reduced.nd rfl (by first | exact .inl rfl | exact .inr rfl) (pe_dget (hu_of hr) (pv 1) (pv 2) (fun _ _ => rfl)))
      (pss_cons (ps_set (i := 4) sc_reduced.nd rfl (by first | exact .inl rfl | exact .inr rfl) (pe_op (op_fdivQ hN rfl rfl rfl rfl rfl hT (room100 hr (by decide))) (pe_ix (ixT K rfl) (pv 0) (pv 2) (fun _ _ => rfl)) (pe_ix (ixT K rfl) (pv 3) (pv 2) (fun _ _ => rfl))))
      (pss_one (ps_if (pt_cmpR op_ne (pv 4) pe_int (nomark _))
      (pss_one (ps_set (i := 0) sc_reduced.nd rfl (by first | exact .inl rfl | exact .inr rfl) (pe_c (cal_mixed T hN hT) hr (by decide) (by rfl) (pa_cons pe_int (pa_cons (pv 0) (pa_cons (pe_un un_neg (pv 4)) (pa_cons (pv 3) pa_nil)))))))
      pss_nil)))))
      (pss_one (ps_ret (pv 0)))), ?_⟩
    obtain ⟨kvs, ks, hrd, hks, hpk⟩ := hd.keys
    have lks : ks.length = TT.length := by
      have := hpk.length_eq
      unfold colT at this
      rwa [List.length_map] at this
    refine ⟨_, rfl, a, kvs, ks, rfl, hrd, hks, by omega, fun ys p hy ho np => ?_⟩
    have ey := cols_eq ech hpk hy ho
    subst ey
    have s0 := same_upd (o := .lst ((colT TT).map V.int)) np
    have ep : (upd H p (.lst ((colT TT).map V.int))) p = some (.lst ((colT TT).map V.int)) := upd_same
    have hv0 := TRow.same s0 hv
    have hd0 := hd.same s0
    generalize upd H p (.lst ((colT TT).map V.int)) = H0 at s0 ep hv0 hd0 ⊢
    refine ⟨p, _, rfl, .inl (.inl (.inl ep)), fun J G W hG => ?_⟩
    refine for_it W (fun i σ H2 => ∃ (rv : V) (y2 y3 y4 : Option V), σ = [some rv, some (.ref a), y2, y3, y4] ∧ Same H0 H2 ∧ TRow K H2 rv (redT (TT.take i) row) ∧ Cost (ρ + (cs.take i).sum) (redT (TT.take i) row)) ⟨v, none, none, none, rfl, Same.refl _, hv0, cr⟩ (fun i σ H2 _ ⟨_, _, _, _, _, s2, _⟩ => hG _ fun b _ o => s2 b o) ?_ ?_
    · rintro i x σ H2 H2' hi ⟨rv, y2, y3, y4, rfl, s2, hrv, hcr⟩ ⟨rfl, ex⟩
      have hi' : i < TT.length := by
        unfold colT at hi
        rwa [List.length_map, List.length_map] at hi
      have ei := List.getElem?_eq_getElem hi'
      generalize TT[i] = pr at ei
      have hx : x = .int (pr.1 : Int) := by
        unfold colT at ex
        rw [List.getElem?_map, List.getElem?_map, ei] at ex
        exact (Option.some.inj ex).symm
      subst hx
      have hm := List.mem_of_getElem? ei
      have pv := ech.pv _ hm
      obtain ⟨c, ec, hc⟩ := cl.split ei
      have hsum : (cs.take (i + 1)).sum = (cs.take i).sum + c := by
        rw [List.take_add_one, ec, List.sum_append]
        show _ + (c + 0) = _
        rfl
      have hle := sum_take_le cs (i + 1)
      obtain ⟨tv, hget, ⟨pt, rfl, ht⟩⟩ := (hd0.same s2).get hm
      obtain ⟨pr1, rfl, hr1⟩ := hrv
      have lrow : (redT (TT.take i) row).length = w := redT_len (fun q hq => (ech.pv q (List.mem_of_mem_take hq)).len) lr
      refine ⟨_, rfl, _, rfl, a, _, rfl, hget, ?_⟩
      refine ⟨_, rfl, _, rfl, pr1, _, _, _, rfl, rfl, hr1, at_getD (j := pr.1) rfl (by rw [lrow]; exact pv.lt), _, rfl, _, rfl, pt, _, _, _, rfl, rfl, ht, at_getD (j := pr.1) rfl (by rw [pv.len]; exact pv.lt), _, _, rfl, rfl, by have := pv.pos; omega, ?_⟩
      have ef := Int.fdiv_eq_ediv_of_nonneg ((redT (TT.take i) row).getD pr.1 0) (Int.le_of_lt pv.pos)
      refine ⟨_, rfl, rfl, _, rfl, ?_⟩
      have hcost := red1_cost (p := pr) hc hcr pv.pos
      by_cases hq : (redT (TT.take i) row).getD pr.1 0 / pr.2.getD pr.1 0 = 0
      · rw [show (!decide (V.int (((redT (TT.take i) row).getD pr.1 0).fdiv (pr.2.getD pr.1 0)) = V.int 0)) = false by rw [decide_eq_true (by rw [ef, hq])]; rfl]
        refine iteF ?_
        have e1 : red1 pr (redT (TT.take i) row) = redT (TT.take i) row := by
          unfold red1
          rw [if_neg (fun z => z hq)]
        refine ⟨_, _, _, _, rfl, s2, ?_, ?_⟩
        · rw [redT_take ei, e1]
          exact ⟨pr1, rfl, hr1⟩
        · rw [redT_take ei, hsum, e1]
          exact hcr.up (by omega)
      · rw [show (!decide (V.int (((redT (TT.take i) row).getD pr.1 0).fdiv (pr.2.getD pr.1 0)) = V.int 0)) = true by rw [decide_eq_false (fun z => hq (by rw [← ef]; exact V.int.inj z))]; rfl]
        refine iteT ?_
        have bt : (-(((redT (TT.take i) row).getD pr.1 0).fdiv (pr.2.getD pr.1 0))).natAbs < 2 ^ (ρ + (cs.take i).sum) := by
          rw [ef, Int.natAbs_neg]
          exact Nat.lt_of_le_of_lt (Int.natAbs_ediv_le_natAbs _ _) (cost_at hcr _)
        have e1 : red1 pr (redT (TT.take i) row) = mixR 1 (redT (TT.take i) row) (-(((redT (TT.take i) row).getD pr.1 0).fdiv (pr.2.getD pr.1 0))) pr.2 := by
          unfold red1
          rw [if_pos hq, ef]
        refine ⟨_, rfl, _, rfl, _, rfl, _, rfl, 1, _, .ref pr1, .ref pt, _, pr.2, 1, ρ + (cs.take i).sum, ρ + (cs.take i).sum, c, rfl, ⟨pr1, rfl, hr1⟩, ⟨pt, rfl, ht⟩, by rw [lrow, pv.len], by omega, by decide, cost_bits hcr, bt, cost_bits hc, ?_, by omega, fun v3 H3 s3 h3 => ?_⟩
        · have hc1 : 1 ≤ c := by
            rcases Nat.eq_zero_or_pos c with e | e
            · have h1 := hc.at pr.1
              have h2 := pv.pos
              rw [e] at h1
              have h3 : 2 * (pr.2.getD pr.1 0).natAbs < 1 := h1
              omega
            · exact e
          omega
        · rw [← e1] at h3
          refine ⟨_, _, _, _, rfl, s2.trans s3, ?_, ?_⟩
          · rw [redT_take ei]
            exact h3
          · rw [redT_take ei, hsum]
            exact hcost.up (by omega)
    · rintro σ H2 ⟨rv, y2, y3, y4, rfl, s2, hrv, hcr⟩
      have e1 : TT.take ((colT TT).map V.int).length = TT := by
        unfold colT
        rw [List.length_map, List.length_map, List.take_length]
      rw [e1] at hrv
      exact ⟨_, rfl, q _ _ (s0.trans s2) hrv⟩
theorem cal_reduced (T : Top K mg) (hN : base.NoSeer) (hT : P.given.tree = none) : Cal P w K mg base 41 "reduced" (sp_reduced K) [] := ⟨⟨_, _, _, [], ok_reduced T hN hT, T.g_reduced, T.F_reduced.kp, T.b_reduced, .nil⟩⟩

end
end K44
namespace K44
open PySem PySem.Spec PyProof.Rows L2 Gm
open C8 (Cal Met Mak pe_c pe_mt pe_mt0 pe_mk)
section
variable {P : Program} {w : World} {K : PySem.W.Frag} {mg : Str → Option Value} {base : Heap}
theorem drop_cons {α : Type} {T : List α} {i : Nat} {p : α} (h : T[i]? = some p) : T.drop i = p :: T.drop (i + 1) := by
  obtain ⟨hi, e⟩ := List.getElem?_eq_some_iff.mp h
  rw [← e, List.drop_eq_getElem_cons hi]
theorem ech_drop {w : Nat} {T : Tops} (h : Ech w T) (i : Nat) : Ech w (T.drop i) := ⟨h.asc.sublist (List.drop_sublist i T), fun p hp => h.pv p (List.mem_of_mem_drop hp)⟩
def sp_tidied (K : PySem.W.Frag) : Sp := fun vs H Q _ => ∃ (a : Addr) (T : Tops) (w B : Nat), vs = [.ref a] ∧ DT K H a T ∧ Ech w T ∧ w ≤ 1000 ∧ T.length ≤ 10 ∧ (∀ p ∈ T, Cost B p.2) ∧ 2 ^ T.length * B ≤ 134217728 ∧ ∀ d H', Same H H' → DT K H' d (tidyT T) → Q (.ref d) H'
theorem geo_costs {B : Nat} : ∀ {T : Tops}, Geo B T → ∃ cs, CostL T cs ∧ cs.sum = (2 ^ T.length - 1) * B
  | [], _ => ⟨[], rfl, by show 0 = (1 - 1) * B; rw [Nat.sub_self, Nat.zero_mul]⟩
  | p :: T, h => by
    obtain ⟨cs, h1, h2⟩ := geo_costs h.2
    refine ⟨(2 ^ T.length * B) :: cs, ⟨h.1, h1⟩, ?_⟩
    rw [List.sum_cons, h2, List.length_cons, Nat.pow_succ, Nat.sub_mul, Nat.sub_mul]
    have h3 : 1 ≤ 2 ^ T.length := Nat.pow_pos (by decide)
    generalize 2 ^ T.length = k at h3
    have : B ≤ k * B := Nat.le_mul_of_pos_left B h3
    rw [Nat.mul_right_comm, Nat.one_mul]
    omega
theorem ok_tidied (T : Top K mg) (hN : base.NoSeer) (hT : P.given.tree = none) : FnOk P w K mg base CX0 42 T.a_tidied T.d_tidied ["tops"] (sp_tidied K) := by
  refine T.F_tidied.ok sc_tidied (fun vs H Q E h => ?_) (fun cdv A outer s H vs Q E hr h => ?_)
  · obtain ⟨a, TT, w, B, rfl, _⟩ := h
    rfl
  · obtain ⟨a, TT, w, B, rfl, hd, ech, hw, lT, hc, hB, q⟩ := h
    refine ⟨_, (pss_cons (ps_set (i := 1) sc_tidied.nd rfl (by first | exact .inl rfl | exact .inr rfl) pe_dnewK)
      (pss_cons (ps_for PassesOwn.never rfl (piS K rfl (pe_callBK (cr_sortedDRev (b := true) rfl) (by rfl) T.z_sorted (by decide +kernel) (pa_cons (pv 0) pa_nil) (pk_cons pe_bl pk_nil))) (pg_name (i := 2) sc_tidied.nd rfl (by first | exact .inl rfl | exact .inr rfl))
      (pss_one (ps_asg (pe_c (cal_reduced T hN hT) hr (by decide) (by rfl) (pa_cons (pe_dget (hu_of hr) (pv 0) (pv 2) (fun _ _ => rfl)) (pa_cons (pv 1) pa_nil))) (pg_sub (pv 1) (pv 2) (set_dict (hu_of hr))))))
      (pss_one (ps_ret (pv 1))))), ?_⟩
    refine fun d nd => ?_
    have s0 := same_upd (o := .dK []) nd
    have hd0 := hd.same s0
    have hdd : DT K (upd H d (.dK [])) d [] := DT.nil
    generalize upd H d (.dK []) = H0 at s0 hd0 hdd ⊢
    obtain ⟨kvs, ks, hrd, hks, hpk⟩ := hd0.keys
    have lks : ks.length = TT.length := by
      have := hpk.length_eq
      unfold colT at this
      rwa [List.length_map] at this
    refine ⟨_, rfl, a, kvs, ks, rfl, rfl, hrd, hks, by omega, fun ys p hy ho np => ?_⟩
    have ey := cols_rev ech hpk hy ho
    subst ey
    have s1 := same_upd (o := .lst ((colT TT).reverse.map V.int)) np
    have ep : (upd H0 p (.lst ((colT TT).reverse.map V.int))) p = some (.lst ((colT TT).reverse.map V.int)) := upd_same
    have hd1 := hd0.same s1
    have hdd1 := hdd.same s1
    have npd : p ≠ d := fun e => by
      obtain ⟨kv2, e2, _⟩ := hdd
      rw [← e, np] at e2
      cases e2
    have nad : a ≠ d := fun e => by
      obtain ⟨kv2, e2, _⟩ := hd
      rw [e, nd] at e2
      cases e2
    have lrv : ((colT TT).reverse.map V.int).length = TT.length := by
      unfold colT
      rw [List.length_map, List.length_reverse, List.length_map]
    generalize upd H0 p (.lst ((colT TT).reverse.map V.int)) = H1 at s1 ep hd1 hdd1 ⊢
    have s01 := s0.trans s1
    refine ⟨p, _, rfl, .inl (.inl (.inl ep)), fun J G W hG => ?_⟩
    refine for_it W (fun i σ H2 => ∃ (y2 : Option V), σ = [some (.ref a), some (.ref d), y2] ∧ (∀ b o, b ≠ d → H1 b = some o → H2 b = some o) ∧ DT K H2 d (tidyT (TT.drop (TT.length - i)))) ⟨none, rfl, fun b o _ e => e, ?_⟩ (fun i σ H2 _ ⟨_, _, o2, _⟩ => hG _ fun b hb o e => o2 b o (by
      obtain rfl : b = p := by simpa using hb
      exact npd) e) ?_ ?_
    · rw [Nat.sub_zero, List.drop_length]
      exact hdd1
    · rintro i x σ H2 H2' hi ⟨y2, rfl, o2, hdt⟩ ⟨rfl, ex⟩
      have hi' : i < TT.length := by rw [lrv] at hi; exact hi
      have hk' : TT.length - 1 - i < TT.length := by omega
      have ei := List.getElem?_eq_getElem hk'
      generalize TT[TT.length - 1 - i] = pr at ei
      have hx : x = .int (pr.1 : Int) := by
        rw [List.getElem?_map, List.getElem?_reverse (by unfold colT; rw [List.length_map]; exact hi')] at ex
        unfold colT at ex
        rw [List.length_map, List.getElem?_map, ei] at ex
        exact (Option.some.inj ex).symm
      subst hx
      have hm := List.mem_of_getElem? ei
      have pv := ech.pv _ hm
      have hda : DT K H2' a TT := by
        obtain ⟨kv2, e2, pk2, hv2⟩ := hd1
        refine ⟨kv2, o2 _ _ nad e2, pk2, fun p hp => ?_⟩
        obtain ⟨v, ev, hr⟩ := hv2 p hp
        refine ⟨v, ev, ?_⟩
        obtain ⟨kd, ed, _⟩ := hdd1
        exact TRow.offD ed o2 hr
      obtain ⟨tv, hget, ht⟩ := hda.get hm
      have edr : TT.length - i = TT.length - 1 - i + 1 := by omega
      have geo := tidyT_geo (ech_drop ech (TT.length - i)) (fun q hq => hc q (List.mem_of_mem_drop hq))
      obtain ⟨cs, hcl, hsum⟩ := geo_costs geo
      have hn : (tidyT (TT.drop (TT.length - i))).length = i := by rw [tidyT_len, List.length_drop]; omega
      refine ⟨_, rfl, _, rfl, a, _, rfl, hget, ?_⟩
      refine ⟨_, rfl, tv, d, pr.2, _, w, B, cs, rfl, ht, hdt, tidyT_ech (ech_drop ech _), pv.len, hw, by omega, hc _ hm, hcl, ?_, fun v' H3 s3 h3 => ?_⟩
      · rw [hsum, hn]
        have h4 : (2 ^ i - 1) * B + B ≤ 2 ^ TT.length * B := by
          have h5 : (2 ^ i - 1) * B + B = 2 ^ i * B := by
            have h1 : 1 ≤ 2 ^ i := Nat.pow_pos (by decide)
            have : B ≤ 2 ^ i * B := Nat.le_mul_of_pos_left B h1
            rw [Nat.sub_mul, Nat.one_mul]
            omega
          rw [h5]
          exact Nat.mul_le_mul_right B (Nat.pow_le_pow_right (by decide) (by omega))
        omega
      · have hne : ∀ q ∈ tidyT (TT.drop (TT.length - i)), q.1 ≠ pr.1 := fun q hq => Nat.ne_of_gt (keys_lt (tidyT_keys _) (c := pr.1) (by
          have := (ech_drop ech (TT.length - 1 - i))
          rw [drop_cons ei, ← edr] at this
          exact this.head.2) q hq)
        obtain ⟨H4, hput, hdt4, o4⟩ := (hdt.same s3).ins (S := tidyT (TT.drop (TT.length - (i + 1)))) (j := pr.1) (by omega) hne h3 (by
          rw [show TT.length - (i + 1) = TT.length - 1 - i by omega, drop_cons ei, ← edr]
          exact List.Perm.refl _)
        exact ⟨_, rfl, _, rfl, d, H4, rfl, hput, _, rfl, fun b o nb e => o4 _ _ nb (s3 _ _ (o2 b o nb e)), hdt4⟩
    · rintro σ H2 ⟨y2, rfl, o2, hdt⟩
      rw [lrv, Nat.sub_self, List.drop_zero] at hdt
      refine ⟨_, rfl, q _ _ (fun b o e => o2 b o (fun z => ?_) (s01 b o e)) hdt⟩
      rw [z, nd] at e
      cases e
theorem cal_tidied (T : Top K mg) (hN : base.NoSeer) (hT : P.given.tree = none) : Cal P w K mg base 42 "tidied" (sp_tidied K) [] := ⟨⟨_, _, _, [], ok_tidied T hN hT, T.g_tidied, T.F_tidied.kp, T.b_tidied, .nil⟩⟩

end
end K44
namespace K44
open PySem PySem.Spec PyProof.Rows L2 Gm
open C8 (Cal Met Mak pe_c pe_mt pe_mt0 pe_mk)
section
variable {P : Program} {w : World} {K : PySem.W.Frag} {mg : Str → Option Value} {base : Heap}
theorem dget0 {H : Hp} {a : Addr} {j : Nat} {o : Option V} (h : DGet H a (.int (j : Int)) o) : DGet H a (.int (0 + (j : Int))) o := by rwa [Int.zero_add]
theorem dput0 {H H' : Hp} {a : Addr} {j : Nat} {v : V} (h : DPut H a (.int (j : Int)) v H') : DPut H a (.int (0 + (j : Int))) v H' := by rwa [Int.zero_add]
theorem all_costs {C : Nat} : ∀ {T : Tops}, (∀ p ∈ T, Cost C p.2) → CostL T (List.replicate T.length C)
  | [], _ => rfl
  | p :: T, h => ⟨h p (List.mem_cons_self ..), all_costs fun q hq => h q (List.mem_cons_of_mem _ hq)⟩
theorem sum_rep (n C : Nat) : (List.replicate n C).sum = n * C := by
  induction n with
  | zero => rw [Nat.zero_mul]; rfl
  | succ n ih => rw [List.replicate_succ, List.sum_cons, ih, Nat.succ_mul]; omega
def sp_with_row (K : PySem.W.Frag) : Sp := fun vs H Q _ => ∃ (a : Addr) (v : V) (r0 : List Int) (T0 : Tops) (w B : Nat), vs = [.ref a, v] ∧ DT K H a T0 ∧ TRow K H v r0 ∧ Ech w T0 ∧ r0.length = w ∧ w ≤ 1000 ∧ T0.length ≤ 9 ∧ (∀ p ∈ T0, Cost B p.2) ∧ Cost B r0 ∧ (T0.length + 1) * (B * (1 + tri T0.length)) ≤ 60000000 ∧ ∀ d H' T, Same H H' → DT K H' d T → WRes w B T0 r0 T → Q (.ref d) H'
theorem ok_with_row (T : Top K mg) (hN : base.NoSeer) (hT : P.given.tree = none) : FnOk P w K mg base CX0 44 T.a_with_row T.d_with_row ["tops", "row"] (sp_with_row K) := by
  refine T.F_with_row.ok sc_with_row (fun vs H Q E h => ?_) (fun cdv A outer s H vs Q E hr h => ?_)
  · obtain ⟨a, v, r0, T0, w, B, rfl, _⟩ := h
    rfl
  · obtain ⟨a, v, r0, T0, w, B, rfl, hd, hv, ech, lr, hw, lT, hc, hcr, hB, q⟩ := h
    refine ⟨_, (pss_cons (ps_set (i := 2) sc_with_row.nd rfl (by first | exact .inl rfl | exact .inr rfl) (pe_callTy call_dictD (by rfl) T.z_dict (by decide +kernel) (pa_cons (pv 0) pa_nil)))
      (pss_cons (ps_for PassesOwn.never rfl (pi_range1 (by rfl) T.z_range (pa_cons (pe_callB (lenS K rfl) (by rfl) T.z_len (by decide +kernel) (pa_cons (pv 1) pa_nil)) pa_nil)) (pg_name (i := 3) sc_with_row.nd rfl (by first | exact .inl rfl | exact .inr rfl))
      (pss_cons (ps_if (pt_cmpR op_eq (pe_ix (ixT K rfl) (pv 1) (pv 3) (fun _ _ => rfl)) pe_int (nomark _))
      (pss_one ps_continue)
      pss_nil)
      (pss_cons (ps_if (pt_cmp (pc_dnotin (hu_of hr) (pv 3) (pv 2)) (by with_unfolding_all rfl))
      (pss_cons (ps_asg (pe_ifExp (pt_cmpR op_gt (pe_ix (ixT K rfl) (pv 1) (pv 3) (fun _ _ => rfl)) pe_int (nomark _)) (pv 1) (pe_callTy (tupK K rfl) (by rfl) T.z_tuple (by decide +kernel) (pa_cons (pe_lc (own := [("item", 5)]) (g := (gName 5)) (by rfl) sc_with_row.nd (piS K rfl (pv 1)) ((by show BlkOk ["tops", "row", "found", "column", "top", "item"] (defScope s_with_row) _ _; exact blkOk_by (by decide +kernel))) (fun _ _ _ _ _ => (pg_name (i := 5) sc_with_row.nd rfl (by first | exact .inl rfl | exact .inr rfl))) (fun _ _ _ _ _ => pts_nil) (fun _ _ _ _ _ => (pe_un un_neg (pv 5)))) pa_nil))) (pg_sub (pv 2) (pv 3) (set_dict (hu_of hr))))
      (pss_one (ps_ret (pv 2))))
      pss_nil)
      (pss_cons (ps_asg (pe_c (cal_merged T hN hT) hr (by decide) (by rfl) (pa_cons (pe_dget (hu_of hr) (pv 2) (pv 3) (fun _ _ => rfl)) (pa_cons (pv 1) (pa_cons (pv 3) pa_nil)))) (pg_tup rfl (pgs_cons (pg_name (i := 4) sc_with_row.nd rfl (by first | exact .inl rfl | exact .inr rfl)) (pgs_cons (pg_name (i := 1) sc_with_row.nd rfl (by first | exact .inl rfl | exact .inr rfl)) pgs_nil))))
      (pss_cons (ps_asg (pv 4) (pg_sub (pv 2) (pv 3) (set_dict (hu_of hr))))
      (pss_one (ps_set (i := 1) sc_with_row.nd rfl (by first | exact .inl rfl | exact .inr rfl) (pe_c (cal_reduced T hN hT) hr (by decide) (by rfl) (pa_cons (pv 1) (pa_cons (pv 2) pa_nil))))))))))
      (pss_one (ps_ret (pv 2))))), ?_⟩
    rw [← fB_0] at hB
    obtain ⟨kvs, e0, pk0, hv0⟩ := hd
    refine ⟨_, rfl, a, kvs, rfl, .inl e0, fun d nd => ?_⟩
    have s0 := same_upd (o := .dK kvs) nd
    have hdd : DT K (upd H d (.dK kvs)) d T0 := ⟨kvs, upd_same, pk0, fun p hp => let ⟨v, ev, hr⟩ := hv0 p hp; ⟨v, ev, TRow.same s0 hr⟩⟩
    have hv1 := TRow.same s0 hv
    have ed0 : (upd H d (.dK kvs)) d = some (.dK kvs) := upd_same
    generalize upd H d (.dK kvs) = H0 at s0 hdd hv1 ed0 ⊢
    obtain ⟨pr0, rfl, hr0⟩ := hv1
    refine ⟨_, rfl, pr0, _, rfl, .inr hr0, _, rfl, ?_⟩
    have bw : ((r0.map V.int).length : Int) < 2 ^ 62 := by
      rw [List.length_map, lr]
      have : (1000 : Int) < 2 ^ 62 := by decide
      omega
    refine ⟨by omega, bw, ?_⟩
    refine for_it walk_range (fun i σ H2 => ∃ (rv : V) (T : Tops) (r : List Int) (y3 y4 y5 : Option V), σ = [some (.ref a), some rv, some (.ref d), y3, y4, y5] ∧ (∀ b o, b ≠ d → H0 b = some o → H2 b = some o) ∧ DT K H2 d T ∧ TRow K H2 rv r ∧ WR w B T0 r0 i T r) ⟨_, T0, r0, none, none, none, rfl, fun b o _ e => e, hdd, ⟨pr0, rfl, hr0⟩, WR.start ech lr hc hcr⟩ (fun _ _ _ _ _ => trivial) ?_ ?_
    · rintro i x σ H2 H2' hi ⟨rv, TT, r, y3, y4, y5, rfl, o2, hdt, ⟨pr, rfl, hr1⟩, W⟩ ⟨rfl, rfl⟩
      have hi' : i < w := by
        rw [List.length_map, lr] at hi
        omega
      have lTT := W.len
      have hat := at_getD (r := r) (j := i) (z := 0 + (i : Int)) (by omega) (by rw [W.lr]; exact hi')
      refine ⟨_, rfl, _, rfl, pr, _, _, _, rfl, rfl, hr1, hat, rfl, _, rfl, ?_⟩
      by_cases hz : r.getD i 0 = 0
      · rw [show decide (V.int (r.getD i 0) = V.int 0) = true from decide_eq_true (by rw [hz])]
        refine iteT ?_
        exact ⟨_, TT, r, _, _, _, rfl, o2, hdt, ⟨pr, rfl, hr1⟩, W.skip hz⟩
      rw [show decide (V.int (r.getD i 0) = V.int 0) = false from decide_eq_false (fun z => hz (V.int.inj z))]
      refine iteF ?_
      obtain ⟨o, hget, hos⟩ := hdt.has i
      refine ⟨_, rfl, _, rfl, d, o, rfl, dget0 hget, _, rfl, ?_⟩
      by_cases hk : ∃ p ∈ TT, p.1 = i
      · obtain ⟨⟨i', t⟩, ht, e⟩ := hk
        have e : i' = i := e
        subst e
        rw [show (!o.isSome) = false by rw [hos.mpr ⟨_, ht, rfl⟩]; rfl]
        refine iteF ?_
        obtain ⟨tv, hget2, htr⟩ := hdt.get ht
        have hcB := W.cT _ ht (Nat.le_refl _)
        have hpv := W.E.pv _ ht
        have hrc := W.cr
        have hf0 := fB_mono (B := B) (k := T0.length) (Nat.zero_le (cnt i' TT))
        have hBf : B ≤ fB B T0.length 0 := fB_B
        have hmul : fB B T0.length 0 ≤ (T0.length + 1) * fB B T0.length 0 := Nat.le_mul_of_pos_left _ (by omega)
        refine ⟨_, rfl, _, rfl, d, _, rfl, dget0 hget2, _, rfl, _, rfl, ?_⟩
        refine ⟨tv, .ref pr, t, r, w, i', B, _, rfl, htr, ⟨pr, rfl, hr1⟩, hpv.len, W.lr, hw, hi', by have := hpv.pos; exact Int.ne_of_gt this, hz, hcB, hrc, by omega, by omega, fun tp v3 v4 g u v H3 s3 cf htp h3 h4 => ?_⟩
        obtain ⟨W', c1, c2⟩ := W.merge hi' hz ht cf
        refine ⟨tp, _, rfl, htp, rfl, _, _, rfl, _, _, rfl, rfl, ?_⟩
        have hdt3 := hdt.same s3
        obtain ⟨H4, hput, hdt4, o4⟩ := hdt3.set (j := i') (by omega) ⟨_, ht, rfl⟩ h3
        obtain ⟨kv3, ek3, _⟩ := hdt3
        have h4' := TRow.offD ek3 o4 h4
        have hcs : ∀ p ∈ setK i' (mixR u t v r) TT, Cost (fB B T0.length 0) p.2 := fun p hp => by
          rcases mem_setK hp with rfl | ⟨hp, _⟩
          · exact c1
          · exact W.cA p hp
        have hT' : (setK i' (mixR u t v r) TT).length = T0.length := by rw [setK_len, lTT]
        have lmx : (mixR (t.getD i' 0 / g) r (-(r.getD i' 0 / g)) t).length = w := mixR_len W.lr hpv.len
        refine ⟨_, rfl, _, rfl, _, rfl, d, H4, rfl, dput0 hput, ?_⟩
        refine ⟨_, rfl, _, rfl, v4, d, _, _, w, _, _, rfl, h4', hdt4, W'.E, lmx, hw, by omega, c2, all_costs hcs, ?_, fun v5 H5 s5 h5 => ?_⟩
        · rw [sum_rep, hT']
          have : (T0.length + 1) * fB B T0.length 0 = T0.length * fB B T0.length 0 + fB B T0.length 0 := Nat.succ_mul ..
          omega
        · exact ⟨v5, _, _, _, _, _, rfl, fun b o nb e => s5 _ _ (o4 _ _ nb (s3 _ _ (o2 b o nb e))), hdt4.same s5, h5, W'⟩
      · rw [show (!o.isSome) = true by
          cases ho : o.isSome
          · rfl
          · exact absurd (hos.mp ho) hk]
        refine iteT ?_
        have hk' : ∀ p ∈ TT, p.1 ≠ i := fun p hp e => hk ⟨p, hp, e⟩
        refine ⟨_, rfl, _, rfl, pr, _, _, _, rfl, rfl, hr1, hat, _, _, rfl, rfl, _, rfl, ?_⟩
        have lnr : (normR i r).length = w := by rw [normR_len]; exact W.lr
        have fin : ∀ (v' : V) (H3 : Hp), (∀ b o, b ≠ d → H0 b = some o → H3 b = some o) → DT K H3 d TT → TRow K H3 v' (normR i r) → ∃ H4, DPut H3 d (.int (0 + (i : Int))) v' H4 ∧ Q (.ref d) H4 := fun v' H3 o3 hd3 hv3 => by
          obtain ⟨H4, hput, hd4, o4⟩ := hd3.ins (S := insK i (normR i r) TT) (j := i) (by omega) hk' hv3 insK_perm
          refine ⟨H4, dput0 hput, q d H4 _ (fun b o e => ?_) hd4 (W.insert hi' hz hk')⟩
          have nb : b ≠ d := fun z => by rw [z, nd] at e; cases e
          exact o4 _ _ nb (o3 _ _ nb (s0 _ _ e))
        by_cases hpos : 0 < r.getD i 0
        · rw [decide_eq_true hpos]
          refine iteT ?_
          obtain ⟨H4, hput, hq⟩ := fin (.ref pr) _ o2 hdt (by unfold normR; rw [if_pos hpos]; exact ⟨pr, rfl, hr1⟩)
          exact ⟨_, rfl, _, rfl, _, rfl, d, H4, rfl, hput, _, rfl, hq⟩
        · rw [decide_eq_false hpos]
          refine iteF ?_
          have en : normR i r = r.map fun z => -z := by unfold normR; rw [if_neg hpos]
          refine ⟨_, rfl, pr, _, rfl, .inr hr1, fun J2 G2 W2 hG2 D hD => ?_⟩
          refine lc_all W2 hD (by rw [List.length_map, W.lr]; exact hw) (fun H4 s4 => hG2 H4 fun b _ o => s4 b o) (fun j v _ => ∃ z, (r.map fun z => -z)[j]? = some z ∧ v = .int z) (fun _ _ _ _ _ _ _ h => h) ?_ gm_name ?_
          · rintro j x H4 H4' acc Ko hj s4 eD ⟨rfl, ex⟩ k
            obtain ⟨z, ez, rfl⟩ := ints_get ex
            refine ⟨rfl, ?_⟩
            refine ⟨_, rfl, _, rfl, ?_⟩
            exact k _ _ (Same.refl _) ⟨-z, by rw [List.getElem?_map, ez]; rfl, rfl⟩
          · intro H4 l s4 eD hpl
            have el := ints_list (by rw [List.length_map, List.length_map]) hpl
            subst el
            refine ⟨D, _, rfl, .inl ⟨.inl (.inl eD), fun t nt => ?_⟩⟩
            have s5 := s4.trans (same_upd (o := .tup ((r.map fun z => -z).map V.int)) nt)
            obtain ⟨H5, hput, hq⟩ := fin (.ref t) _ (fun b o nb e => s5 _ _ (o2 b o nb e)) (hdt.same s5) (by rw [en]; exact ⟨t, rfl, .inl (.inl upd_same)⟩)
            exact ⟨_, rfl, _, rfl, d, H5, rfl, hput, _, rfl, hq⟩
    · rintro σ H2 ⟨rv, TT, r, y3, y4, y5, rfl, o2, hdt, hr1, W⟩
      refine ⟨_, rfl, q d _ TT (fun b o e => ?_) hdt ?_⟩
      · have nb : b ≠ d := fun z => by rw [z, nd] at e; cases e
        exact o2 _ _ nb (s0 _ _ e)
      · have e1 : ((r0.map V.int).length : Int).toNat = w := by rw [List.length_map, lr]; omega
        rw [e1] at W
        exact W.done
theorem cal_with_row (T : Top K mg) (hN : base.NoSeer) (hT : P.given.tree = none) : Cal P w K mg base 44 "with_row" (sp_with_row K) [] := ⟨⟨_, _, _, [], ok_with_row T hN hT, T.g_with_row, T.F_with_row.kp, T.b_with_row, .nil⟩⟩

end
end K44
namespace K44
open PySem PySem.Spec PyProof.Rows L2 Gm
open C8 (Cal Met Mak pe_c pe_mt pe_mt0 pe_mk)
section
variable {P : Program} {w : World} {K : PySem.W.Frag} {mg : Str → Option Value} {base : Heap}
def hC (B : Nat) : Nat → Nat
  | 0 => B
  | k + 1 => 2 ^ k * (hC B k * (1 + tri k))
theorem hC_le (B : Nat) : ∀ k, hC B k ≤ hC B (k + 1) := fun k => by
  show hC B k ≤ 2 ^ k * (hC B k * (1 + tri k))
  have h1 : 1 ≤ 2 ^ k := Nat.pow_pos (by decide)
  have h2 : hC B k ≤ hC B k * (1 + tri k) := Nat.le_mul_of_pos_right _ (by omega)
  exact Nat.le_trans h2 (Nat.le_mul_of_pos_left _ h1)
theorem hC_mono (B : Nat) {k n : Nat} (h : k ≤ n) : hC B k ≤ hC B n := by
  induction h with
  | refl => exact Nat.le_refl _
  | step _ ih => exact Nat.le_trans ih (hC_le B _)
theorem tri_le {a b : Nat} (h : a ≤ b) : tri a ≤ tri b := tri_mono h
structure HRes (w B : Nat) (m : List (List Int)) (n : Nat) (T : Tops) : Prop where
  E : Ech w T
  tid : Tid T
  span : ∀ x, Spn (rowsT T) x ↔ Spn (m.take n) x
  len : T.length ≤ n
  cost : ∀ p ∈ T, Cost (hC B n) p.2
  full : (∀ i, i < n → ∃ d, (∀ k, k < i → (m.getD k []).getD d 0 = 0) ∧ (m.getD i []).getD d 0 ≠ 0) → T.length = n
theorem take_add {α : Type} {m : List α} {i : Nat} {r : α} (h : m[i]? = some r) : m.take (i + 1) = m.take i ++ [r] := by
  rw [List.take_add_one, h]
  rfl
theorem hres_step {w B i : Nat} {m : List (List Int)} {T S : Tops} {r : List Int} (h : HRes w B m i T) (er : m[i]? = some r) (R : WRes w (hC B i) T r S) : HRes w B m (i + 1) (tidyT S) := by
  refine ⟨tidyT_ech R.E, tidyT_tid R.E, fun x => ?_, ?_, fun p hp => ?_, fun hf => ?_⟩
  · refine Iff.trans (tidyT_span R.E x) (Iff.trans (R.span x) ?_)
    rw [take_add er]
    constructor
    · refine Spn.sub fun q hq => ?_
      rcases List.mem_cons.mp hq with rfl | hq
      · exact Spn.mem (List.mem_append_right _ (List.mem_singleton.mpr rfl))
      · exact Spn.sub (fun q' hq' => Spn.mem (List.mem_append_left _ hq')) ((h.span _).mp (Spn.mem hq))
    · refine Spn.sub fun q hq => ?_
      rcases List.mem_append.mp hq with hq | hq
      · exact ((h.span _).mpr (Spn.mem hq)).tail
      · obtain rfl := List.mem_singleton.mp hq
        exact Spn.head _ _
  · rw [tidyT_len]
    have := h.len
    rcases R.len with e | e <;> omega
  · have hS : ∀ p ∈ S, Cost (hC B i * (1 + tri i)) p.2 := fun p hp => (R.cost p hp).up (Nat.mul_le_mul_left _ (by have := tri_le h.len; omega))
    have h1 := tidyT_cost R.E hS p hp
    refine h1.up ?_
    show 2 ^ (S.length - 1) * _ ≤ 2 ^ i * _
    refine Nat.mul_le_mul_right _ (Nat.pow_le_pow_right (by decide) ?_)
    have := h.len
    rcases R.len with e | e <;> omega
  · rw [tidyT_len]
    have hT := h.full fun k hk => hf k (by omega)
    obtain ⟨d, hd, hn⟩ := hf i (by omega)
    have e1 : m.getD i [] = r := by rw [List.getD_eq_getElem?_getD, er]; rfl
    rw [e1] at hn
    have hz : ∀ p ∈ T, p.2.getD d 0 = 0 := fun p hp => by
      have h1 := (h.span _).mp (Spn.mem (List.mem_map.mpr ⟨p, hp, rfl⟩))
      refine Spn.prop (fun x => x d = 0) rfl (fun x y a hx hy => by show x d + a * y d = 0; rw [hx, hy, Int.mul_zero]; rfl) (fun q hq => ?_) h1
      obtain ⟨k, ek⟩ := List.getElem?_of_mem hq
      rw [List.getElem?_take] at ek
      split at ek
      · rename_i hk
        have := hd k hk
        rw [show m.getD k [] = q by rw [List.getD_eq_getElem?_getD, ek]; rfl] at this
        exact this
      · cases ek
    rw [R.full d hz hn, hT]
theorem dt_row {K : PySem.W.Frag} {H : Hp} {a : Addr} {T : Tops} {i : Nat} {p : Nat × List Int} (h : DT K H a T) (e : T[i]? = some p) : ∃ v, DGet H a (.int (p.1 : Int)) (some v) ∧ TRow K H v p.2 := h.get (List.mem_of_getElem? e)
def HRows (K : PySem.W.Frag) (H : Hp) (v : V) (m : List (List Int)) : Prop := ∃ a ws, v = .ref a ∧ Gm.Seq K H a ws ∧ Paired (TRow K H) ws m
theorem hrows_t {K : PySem.W.Frag} {H : Hp} {v : V} {m : List (List Int)} (h : TRows K H v m) : HRows K H v m := let ⟨a, ws, e, ha, hp⟩ := h; ⟨a, ws, e, .inr ha, hp⟩
theorem HRows.same {K : PySem.W.Frag} {H H' : Hp} {v : V} {m : List (List Int)} (s : Same H H') (h : HRows K H v m) : HRows K H' v m := by
  obtain ⟨a, ws, e, ha, hp⟩ := h
  refine ⟨a, ws, e, ?_, L2.Paired.mapP hp fun _ _ => TRow.same s⟩
  rcases ha with ha | ha
  · exact .inl (sqL_at ha fun o => s _ o)
  · exact .inr (Same.seqT s ha)
def sp_hermite_rows (K : PySem.W.Frag) : Sp := fun vs H Q _ => ∃ (v : V) (m : List (List Int)) (w B : Nat), vs = [v] ∧ HRows K H v m ∧ (∀ r ∈ m, r.length = w) ∧ w ≤ 1000 ∧ m.length ≤ 9 ∧ (∀ r ∈ m, Cost B r) ∧ (∀ k, k < m.length → (k + 1) * (hC B k * (1 + tri k)) ≤ 60000000) ∧ 2 * hC B m.length ≤ 134217728 ∧ ∀ T t H', Same H H' → HRes w B m m.length T → TRows K H' t (rowsT T) → Q t H'
theorem ok_hermite_rows (T : Top K mg) (hN : base.NoSeer) (hT : P.given.tree = none) : FnOk P w K mg base CX0 45 T.a_hermite_rows T.d_hermite_rows ["rows"] (sp_hermite_rows K) := by
  refine T.F_hermite_rows.ok sc_hermite_rows (fun vs H Q E h => ?_) (fun cdv A outer s H vs Q E hr h => ?_)
  · obtain ⟨v, m, w, B, rfl, _⟩ := h
    rfl
  · obtain ⟨v, m, w, B, rfl, hv, hl, hw, lm, hc, hB1, hB, q⟩ := h
    refine ⟨_, (pss_cons (ps_set (i := 1) sc_hermite_rows.nd rfl (by first | exact .inl rfl | exact .inr rfl) pe_dnewK)
      (pss_cons (ps_for PassesOwn.never rfl (piS K rfl (pv 0)) (pg_name (i := 2) sc_hermite_rows.nd rfl (by first | exact .inl rfl | exact .inr rfl))
      (pss_one (ps_set (i := 1) sc_hermite_rows.nd rfl (by first | exact .inl rfl | exact .inr rfl) (pe_c (cal_tidied T hN hT) hr (by decide) (by rfl) (pa_cons (pe_c (cal_with_row T hN hT) hr (by decide) (by rfl) (pa_cons (pv 1) (pa_cons (pv 2) pa_nil))) pa_nil)))))
      (pss_one (ps_ret (pe_callTy (tupK K rfl) (by rfl) T.z_tuple (by decide +kernel) (pa_cons (pe_lc (own := [("column", 3)]) (g := (gName 3)) (by rfl) sc_hermite_rows.nd (piS K rfl (pe_callB (call_sortedDI rfl) (by rfl) T.z_sorted (by decide +kernel) (pa_cons (pv 1) pa_nil))) ((by show BlkOk ["rows", "tops", "row", "column"] (defScope s_hermite_rows) _ _; exact blkOk_by (by decide +kernel))) (fun _ _ _ _ _ => (pg_name (i := 3) sc_hermite_rows.nd rfl (by first | exact .inl rfl | exact .inr rfl))) (fun _ _ _ _ _ => pts_nil) (fun _ _ _ _ _ => (pe_dget (hu_of hr) (pv 1) (pv 3) (fun _ _ => rfl)))) pa_nil)))))), ?_⟩
    refine fun d nd => ?_
    have s0 := same_upd (o := .dK []) nd
    have hdd : DT K (upd H d (.dK [])) d [] := DT.nil
    obtain ⟨a, ws, rfl, ha, hp⟩ := HRows.same s0 hv
    generalize upd H d (.dK []) = H0 at s0 hdd ha hp ⊢
    have lws : ws.length = m.length := hp.length
    refine ⟨_, rfl, a, ws, rfl, ha, fun J G W hG => ?_⟩
    refine for_it W (fun i σ H2 => ∃ (d2 : Addr) (T : Tops) (y2 y3 : Option V), σ = [some (.ref a), some (.ref d2), y2, y3] ∧ Same H0 H2 ∧ DT K H2 d2 T ∧ HRes w B m i T) ⟨d, [], none, none, rfl, Same.refl _, hdd, ?_⟩ (fun i σ H2 _ ⟨_, _, _, _, _, s2, _⟩ => hG _ fun b _ o => s2 b o) ?_ ?_
    · exact ⟨⟨List.Pairwise.nil, fun p hp => (by cases hp)⟩, trivial, fun x => Iff.rfl, Nat.le_refl _, fun p hp => (by cases hp), fun _ => rfl⟩
    · rintro i x σ H2 H2' hi ⟨d2, TT, y2, y3, rfl, s2, hdt, R⟩ ⟨rfl, ex⟩
      obtain ⟨r, er, hr⟩ := Paired.getR hp ex
      have hi' : i < m.length := by omega
      have hr2 := TRow.same s2 hr
      have hrm := List.mem_of_getElem? er
      have h1 := hC_mono B (show i + 1 ≤ m.length from hi')
      have h2 : hC B (i + 1) = 2 ^ i * (hC B i * (1 + tri i)) := rfl
      have h3 := R.len
      have h4 : B ≤ hC B i := hC_mono B (Nat.zero_le i)
      have h5 := tri_le h3
      have h6 : hC B i * (1 + tri TT.length) ≤ hC B i * (1 + tri i) := Nat.mul_le_mul_left _ (by omega)
      have h8 := hB1 i hi'
      have h9 : (TT.length + 1) * (hC B i * (1 + tri TT.length)) ≤ (i + 1) * (hC B i * (1 + tri i)) := Nat.mul_le_mul (by omega) h6
      refine ⟨_, rfl, _, rfl, d2, x, r, TT, w, hC B i, rfl, hdt, hr2, R.E, hl r hrm, hw, by omega, R.cost, (hc r hrm).up h4, by omega, fun d3 H3 S s3 hd3 WR3 => ?_⟩
      have hS : ∀ p ∈ S, Cost (hC B i * (1 + tri TT.length)) p.2 := WR3.cost
      have lS : S.length ≤ i + 1 := by rcases WR3.len with e | e <;> omega
      refine ⟨d3, S, w, _, rfl, hd3, WR3.E, hw, by omega, hS, ?_, fun d4 H4 s4 hd4 => ?_⟩
      · have k1 : 2 ^ S.length ≤ 2 ^ (i + 1) := Nat.pow_le_pow_right (by decide) lS
        have k2 := Nat.mul_le_mul k1 h6
        have k3 : 2 ^ (i + 1) * (hC B i * (1 + tri i)) = 2 * hC B (i + 1) := by rw [h2, Nat.pow_succ, Nat.mul_comm (2 ^ i) 2, Nat.mul_assoc]
        omega
      · exact ⟨d4, _, _, _, rfl, s2.trans (s3.trans s4), hd4, hres_step R er WR3⟩
    · rintro σ H2 ⟨d2, TT, y2, y3, rfl, s2, hdt, R⟩
      rw [lws] at R
      obtain ⟨kvs, ks, hrd, hks, hpk⟩ := hdt.keys
      have lks : ks.length = TT.length := by
        have := hpk.length_eq
        unfold colT at this
        rwa [List.length_map] at this
      have := R.len
      refine ⟨_, rfl, d2, kvs, ks, rfl, hrd, hks, by omega, fun ys p hy ho np => ?_⟩
      have ey := cols_eq R.E hpk hy ho
      subst ey
      have s5 := same_upd (o := .lst ((colT TT).map V.int)) np
      have ep : (upd H2 p (.lst ((colT TT).map V.int))) p = some (.lst ((colT TT).map V.int)) := upd_same
      have hd5 := hdt.same s5
      generalize upd H2 p (.lst ((colT TT).map V.int)) = H5 at s5 ep hd5 ⊢
      have lcol : ((colT TT).map V.int).length = TT.length := by unfold colT; rw [List.length_map, List.length_map]
      refine ⟨p, _, rfl, .inl (.inl (.inl ep)), fun J2 G2 W2 hG2 D hD => ?_⟩
      refine lc_all W2 hD (by omega) (fun H4 s4 => hG2 H4 fun b _ o => s4 b o) (fun i v H4 => ∃ r, (rowsT TT)[i]? = some r ∧ TRow K H4 v r) (fun i v H4 H5 acc e o ⟨r, er, h⟩ => ⟨r, er, TRow.off e o h⟩) ?_ gm_name ?_
      · rintro j x H6 H6' acc Ko hj s6 eD ⟨rfl, ex⟩ k
        have hj' : j < TT.length := by rw [lcol] at hj; exact hj
        have ej := List.getElem?_eq_getElem hj'
        generalize TT[j] = pr at ej
        have hx : x = .int (pr.1 : Int) := by
          unfold colT at ex
          rw [List.getElem?_map, List.getElem?_map, ej] at ex
          exact (Option.some.inj ex).symm
        subst hx
        obtain ⟨v, hget, hrow⟩ := dt_row (hd5.same s6) ej
        refine ⟨rfl, ?_⟩
        refine ⟨_, rfl, _, rfl, d2, v, rfl, hget, ?_⟩
        exact k _ _ (Same.refl _) ⟨pr.2, by rw [List.getElem?_map, ej]; rfl, hrow⟩
      · intro H6 l s6 eD hpl
        refine ⟨D, _, rfl, .inl ⟨.inl (.inl eD), fun t nt => ?_⟩⟩
        have s7 := same_upd (o := .tup l) nt
        refine q TT _ _ (s0.trans (s2.trans (s5.trans (s6.trans s7)))) R ⟨t, l, rfl, .inl (.inl upd_same), ?_⟩
        exact L2.Paired.mapP (paired_at (m := rowsT TT) (by rw [lcol, List.length_map]) hpl) fun _ _ => TRow.same s7
theorem cal_hermite_rows (T : Top K mg) (hN : base.NoSeer) (hT : P.given.tree = none) : Cal P w K mg base 45 "hermite_rows" (sp_hermite_rows K) [] := ⟨⟨_, _, _, [], ok_hermite_rows T hN hT, T.g_hermite_rows, T.F_hermite_rows.kp, T.b_hermite_rows, .nil⟩⟩

end
end K44
namespace K44
open PySem PySem.Spec PyProof.Rows L2 Gm
open C8 (Cal Met Mak pe_c pe_mt pe_mt0 pe_mk)
section
variable {P : Program} {w : World} {K : PySem.W.Frag} {mg : Str → Option Value} {base : Heap}
/-! ### unimodular matrices by steps, sizes up to 4 -/
def l1 (r : List Int) : Nat := (r.map Int.natAbs).sum
theorem l1_at {x : Int} : ∀ {r : List Int}, x ∈ r → x.natAbs ≤ l1 r
  | y :: r, h => by
    show x.natAbs ≤ y.natAbs + l1 r
    rcases List.mem_cons.mp h with rfl | h
    · omega
    · have := l1_at h
      omega
def negR (r : List Int) : List Int := r.map fun z => -z
theorem l1_neg (r : List Int) : l1 (negR r) = l1 r := by
  unfold l1 negR
  rw [List.map_map]
  congr 1
  refine List.map_congr_left fun z _ => ?_
  show (-z).natAbs = z.natAbs
  omega
def zipR (c : Int) (x y : List Int) : List Int := List.zipWith (fun a b => a + c * b) x y
theorem l1_zip {c : Int} (hc : c.natAbs ≤ 2) : ∀ {x y : List Int}, x.length = y.length → l1 (zipR c x y) ≤ l1 x + 2 * l1 y
  | [], _, _ => Nat.zero_le _
  | a :: x, [], h => by cases h
  | a :: x, b :: y, h => by
    have ih := l1_zip hc (x := x) (y := y) (by simpa using h)
    show (a + c * b).natAbs + l1 (zipR c x y) ≤ a.natAbs + l1 x + 2 * (b.natAbs + l1 y)
    have h1 := Int.natAbs_add_le a (c * b)
    have h2 : (c * b).natAbs ≤ 2 * b.natAbs := by
      rw [Int.natAbs_mul]
      exact Nat.mul_le_mul_right b.natAbs hc
    omega
def stepM (m : List (List Int)) (i k : Nat) (c : Int) : List (List Int) := m.set i (if i = k then negR (m.getD i []) else zipR c (m.getD i []) (m.getD k []))
structure UniT (n t : Nat) (m : List (List Int)) : Prop where
  sz : Sz n m
  l1 : ∀ r ∈ m, l1 r ≤ 3 ^ t
  det : (detL n m).natAbs = 1
theorem uniT_row {n t i : Nat} {m : List (List Int)} (h : UniT n t m) (hi : i < n) : m[i]? = some (m.getD i []) ∧ m.getD i [] ∈ m ∧ (m.getD i []).length = n := by
  have hi' : i < m.length := by rw [h.sz.len]; exact hi
  have e : m.getD i [] = m[i] := by rw [List.getD_eq_getElem?_getD, List.getElem?_eq_getElem hi']; rfl
  have hm := List.getElem_mem hi'
  exact ⟨by rw [e]; exact List.getElem?_eq_getElem hi', by rw [e]; exact hm, by rw [e]; exact h.sz.row _ hm⟩
theorem sz_set {n i : Nat} {m : List (List Int)} {r : List Int} (h : Sz n m) (hr : r.length = n) : Sz n (m.set i r) := ⟨by rw [List.length_set]; exact h.len, fun q hq => by
  rcases List.mem_or_eq_of_mem_set hq with hq | rfl
  · exact h.row q hq
  · exact hr⟩
theorem zipR_len {c : Int} {x y : List Int} {n : Nat} (hx : x.length = n) (hy : y.length = n) : (zipR c x y).length = n := by
  unfold zipR
  rw [List.length_zipWith, hx, hy, Nat.min_self]
theorem n1234 {n : Nat} (h0 : 0 < n) (h4 : n ≤ 4) : n = 1 ∨ n = 2 ∨ n = 3 ∨ n = 4 := by omega
theorem det_neg1 {n i : Nat} {m : List (List Int)} (hs : Sz n m) (h4 : n ≤ 4) (hi : i < n) : detL n (m.set i (negR (m.getD i []))) = -detL n m := by
  rcases n1234 (by omega) h4 with rfl | rfl | rfl | rfl
  · obtain ⟨a, rfl⟩ := sz1 hs
    obtain rfl : i = 0 := by omega
    show detL 1 [[-a]] = _
    rw [detL1, detL1]
  · obtain ⟨a, b, c, d, rfl⟩ := sz2 hs
    rcases (show i = 0 ∨ i = 1 by omega) with rfl | rfl
    · show detL 2 [[-a, -b], [c, d]] = _
      rw [detL2, detL2]
      unfold D2
      grind
    · show detL 2 [[a, b], [-c, -d]] = _
      rw [detL2, detL2]
      unfold D2
      grind
  · obtain ⟨a, b, c, d, e, f, g, k, l, rfl⟩ := sz3 hs
    rcases (show i = 0 ∨ i = 1 ∨ i = 2 by omega) with rfl | rfl | rfl
    · show detL 3 [[-a, -b, -c], [d, e, f], [g, k, l]] = _
      rw [detL3, detL3]
      unfold D3 D2
      grind
    · show detL 3 [[a, b, c], [-d, -e, -f], [g, k, l]] = _
      rw [detL3, detL3]
      unfold D3 D2
      grind
    · show detL 3 [[a, b, c], [d, e, f], [-g, -k, -l]] = _
      rw [detL3, detL3]
      unfold D3 D2
      grind
  · obtain ⟨a, b, c, d, e, f, g, k, l, o, p, q, r, s, t, u, rfl⟩ := sz4 hs
    rcases (show i = 0 ∨ i = 1 ∨ i = 2 ∨ i = 3 by omega) with rfl | rfl | rfl | rfl
    · show detL 4 [[-a, -b, -c, -d], [e, f, g, k], [l, o, p, q], [r, s, t, u]] = _
      rw [detL4, detL4]
      unfold D4 D3 D2
      grind
    · show detL 4 [[a, b, c, d], [-e, -f, -g, -k], [l, o, p, q], [r, s, t, u]] = _
      rw [detL4, detL4]
      unfold D4 D3 D2
      grind
    · show detL 4 [[a, b, c, d], [e, f, g, k], [-l, -o, -p, -q], [r, s, t, u]] = _
      rw [detL4, detL4]
      unfold D4 D3 D2
      grind
    · show detL 4 [[a, b, c, d], [e, f, g, k], [l, o, p, q], [-r, -s, -t, -u]] = _
      rw [detL4, detL4]
      unfold D4 D3 D2
      grind
theorem det_zip1 {n i j : Nat} {m : List (List Int)} {z : Int} (hs : Sz n m) (h4 : n ≤ 4) (hi : i < n) (hj : j < n) (hij : i ≠ j) : detL n (m.set i (zipR z (m.getD i []) (m.getD j []))) = detL n m := by
  rcases n1234 (by omega) h4 with rfl | rfl | rfl | rfl
  · omega
  · obtain ⟨a, b, c, d, rfl⟩ := sz2 hs
    rcases (show i = 0 ∧ j = 1 ∨ i = 1 ∧ j = 0 by omega) with ⟨rfl, rfl⟩ | ⟨rfl, rfl⟩
    · show detL 2 [[a + z * c, b + z * d], [c, d]] = _
      rw [detL2, detL2]
      unfold D2
      grind
    · show detL 2 [[a, b], [c + z * a, d + z * b]] = _
      rw [detL2, detL2]
      unfold D2
      grind
  · obtain ⟨a, b, c, d, e, f, g, k, l, rfl⟩ := sz3 hs
    rcases (show i = 0 ∧ j = 1 ∨ i = 0 ∧ j = 2 ∨ i = 1 ∧ j = 0 ∨ i = 1 ∧ j = 2 ∨ i = 2 ∧ j = 0 ∨ i = 2 ∧ j = 1 by omega) with ⟨rfl, rfl⟩ | ⟨rfl, rfl⟩ | ⟨rfl, rfl⟩ | ⟨rfl, rfl⟩ | ⟨rfl, rfl⟩ | ⟨rfl, rfl⟩
    · show detL 3 [[a + z * d, b + z * e, c + z * f], [d, e, f], [g, k, l]] = _
      rw [detL3, detL3]
      unfold D3 D2
      grind
    · show detL 3 [[a + z * g, b + z * k, c + z * l], [d, e, f], [g, k, l]] = _
      rw [detL3, detL3]
      unfold D3 D2
      grind
    · show detL 3 [[a, b, c], [d + z * a, e + z * b, f + z * c], [g, k, l]] = _
      rw [detL3, detL3]
      unfold D3 D2
      grind
    · show detL 3 [[a, b, c], [d + z * g, e + z * k, f + z * l], [g, k, l]] = _
      rw [detL3, detL3]
      unfold D3 D2
      grind
    · show detL 3 [[a, b, c], [d, e, f], [g + z * a, k + z * b, l + z * c]] = _
      rw [detL3, detL3]
      unfold D3 D2
      grind
    · show detL 3 [[a, b, c], [d, e, f], [g + z * d, k + z * e, l + z * f]] = _
      rw [detL3, detL3]
      unfold D3 D2
      grind
  · obtain ⟨a, b, c, d, e, f, g, k, l, o, p, q, r, s, t, u, rfl⟩ := sz4 hs
    rcases (show i = 0 ∧ j = 1 ∨ i = 0 ∧ j = 2 ∨ i = 0 ∧ j = 3 ∨ i = 1 ∧ j = 0 ∨ i = 1 ∧ j = 2 ∨ i = 1 ∧ j = 3 ∨ i = 2 ∧ j = 0 ∨ i = 2 ∧ j = 1 ∨ i = 2 ∧ j = 3 ∨ i = 3 ∧ j = 0 ∨ i = 3 ∧ j = 1 ∨ i = 3 ∧ j = 2 by omega) with ⟨rfl, rfl⟩ | ⟨rfl, rfl⟩ | ⟨rfl, rfl⟩ | ⟨rfl, rfl⟩ | ⟨rfl, rfl⟩ | ⟨rfl, rfl⟩ | ⟨rfl, rfl⟩ | ⟨rfl, rfl⟩ | ⟨rfl, rfl⟩ | ⟨rfl, rfl⟩ | ⟨rfl, rfl⟩ | ⟨rfl, rfl⟩
    · show detL 4 [[a + z * e, b + z * f, c + z * g, d + z * k], [e, f, g, k], [l, o, p, q], [r, s, t, u]] = _
      rw [detL4, detL4]
      unfold D4 D3 D2
      grind
    · show detL 4 [[a + z * l, b + z * o, c + z * p, d + z * q], [e, f, g, k], [l, o, p, q], [r, s, t, u]] = _
      rw [detL4, detL4]
      unfold D4 D3 D2
      grind
    · show detL 4 [[a + z * r, b + z * s, c + z * t, d + z * u], [e, f, g, k], [l, o, p, q], [r, s, t, u]] = _
      rw [detL4, detL4]
      unfold D4 D3 D2
      grind
    · show detL 4 [[a, b, c, d], [e + z * a, f + z * b, g + z * c, k + z * d], [l, o, p, q], [r, s, t, u]] = _
      rw [detL4, detL4]
      unfold D4 D3 D2
      grind
    · show detL 4 [[a, b, c, d], [e + z * l, f + z * o, g + z * p, k + z * q], [l, o, p, q], [r, s, t, u]] = _
      rw [detL4, detL4]
      unfold D4 D3 D2
      grind
    · show detL 4 [[a, b, c, d], [e + z * r, f + z * s, g + z * t, k + z * u], [l, o, p, q], [r, s, t, u]] = _
      rw [detL4, detL4]
      unfold D4 D3 D2
      grind
    · show detL 4 [[a, b, c, d], [e, f, g, k], [l + z * a, o + z * b, p + z * c, q + z * d], [r, s, t, u]] = _
      rw [detL4, detL4]
      unfold D4 D3 D2
      grind
    · show detL 4 [[a, b, c, d], [e, f, g, k], [l + z * e, o + z * f, p + z * g, q + z * k], [r, s, t, u]] = _
      rw [detL4, detL4]
      unfold D4 D3 D2
      grind
    · show detL 4 [[a, b, c, d], [e, f, g, k], [l + z * r, o + z * s, p + z * t, q + z * u], [r, s, t, u]] = _
      rw [detL4, detL4]
      unfold D4 D3 D2
      grind
    · show detL 4 [[a, b, c, d], [e, f, g, k], [l, o, p, q], [r + z * a, s + z * b, t + z * c, u + z * d]] = _
      rw [detL4, detL4]
      unfold D4 D3 D2
      grind
    · show detL 4 [[a, b, c, d], [e, f, g, k], [l, o, p, q], [r + z * e, s + z * f, t + z * g, u + z * k]] = _
      rw [detL4, detL4]
      unfold D4 D3 D2
      grind
    · show detL 4 [[a, b, c, d], [e, f, g, k], [l, o, p, q], [r + z * l, s + z * o, t + z * p, u + z * q]] = _
      rw [detL4, detL4]
      unfold D4 D3 D2
      grind
theorem uniT_step {n t i k : Nat} {m : List (List Int)} {c : Int} (h : UniT n t m) (h4 : n ≤ 4) (hi : i < n) (hk : k < n) (hc : c.natAbs ≤ 2) : UniT n (t + 1) (stepM m i k c) := by
  obtain ⟨_, mi, li⟩ := uniT_row h hi
  obtain ⟨_, mk, lk⟩ := uniT_row h hk
  have p3 : 3 ^ (t + 1) = 3 * 3 ^ t := by rw [Nat.pow_succ, Nat.mul_comm]
  unfold stepM
  by_cases e : i = k
  · rw [if_pos e]
    refine ⟨sz_set h.sz (by unfold negR; rw [List.length_map]; exact li), fun r hr => ?_, by rw [det_neg1 h.sz h4 hi, Int.natAbs_neg]; exact h.det⟩
    rw [p3]
    rcases List.mem_or_eq_of_mem_set hr with hr | rfl
    · have := h.l1 r hr
      omega
    · rw [l1_neg]
      have := h.l1 _ mi
      omega
  · rw [if_neg e]
    refine ⟨sz_set h.sz (zipR_len li lk), fun r hr => ?_, by rw [det_zip1 h.sz h4 hi hk e]; exact h.det⟩
    rw [p3]
    rcases List.mem_or_eq_of_mem_set hr with hr | rfl
    · have := h.l1 r hr
      omega
    · have h1 := l1_zip hc (x := m.getD i []) (y := m.getD k []) (by omega)
      have h2 := h.l1 _ mi
      have h3 := h.l1 _ mk
      omega
def unitU (n i : Nat) : List Int := (List.range n).map fun j => if i = j then 1 else 0
theorem unitU_len {n i : Nat} : (unitU n i).length = n := by
  unfold unitU
  rw [List.length_map, List.length_range]
def unitM (n : Nat) : List (List Int) := (List.range n).map (unitU n)
theorem unitM_len {n : Nat} : (unitM n).length = n := by
  unfold unitM
  rw [List.length_map, List.length_range]
theorem uniT_unit {n : Nat} (h4 : n ≤ 4) : UniT n 0 (unitM n) := by
  refine ⟨⟨unitM_len, fun r hr => ?_⟩, ?_, ?_⟩
  · obtain ⟨i, _, rfl⟩ := List.mem_map.mp hr
    exact unitU_len
  · rcases (show n = 0 ∨ n = 1 ∨ n = 2 ∨ n = 3 ∨ n = 4 by omega) with rfl | rfl | rfl | rfl | rfl <;> decide
  · rcases (show n = 0 ∨ n = 1 ∨ n = 2 ∨ n = 3 ∨ n = 4 by omega) with rfl | rfl | rfl | rfl | rfl <;> decide
theorem uniT_up {n t u : Nat} {m : List (List Int)} (h : UniT n t m) (hu : t ≤ u) : UniT n u m := ⟨h.sz, fun r hr => Nat.le_trans (h.l1 r hr) (Nat.pow_le_pow_right (by decide) hu), h.det⟩

end
end K44
namespace K44
open PySem PySem.Spec PyProof.Rows L2 Gm
open C8 (Cal Met Mak pe_c pe_mt pe_mt0 pe_mk)
section
variable {P : Program} {w : World} {K : PySem.W.Frag} {mg : Str → Option Value} {base : Heap}
theorem StAt.offr {p q : Addr} {H : Hp} {o : HO} (n : q ≠ p) (h : StAt H p) : StAt (upd H q o) p := let ⟨s, t, e, h0⟩ := h; ⟨s, t, by rw [L2.upd_ne (Ne.symm n)]; exact e, h0⟩
theorem StAt.same {p : Addr} {H H' : Hp} (s : Same H H') (h : StAt H p) : StAt H' p := let ⟨a, t, e, h0⟩ := h; ⟨a, t, s _ _ e, h0⟩
theorem StAt.ne {p q : Addr} {H : Hp} (h : StAt H p) (n : H q = none) : p ≠ q := let ⟨_, _, e, _⟩ := h; ne_of_none e n
theorem trowsS {K : PySem.W.Frag} {H H' : Hp} {p : Addr} {v : V} {m : List (List Int)} (st : StAt H p) (o : Off p H H') (h : TRows K H v m) : TRows K H' v m := by
  obtain ⟨_, _, el, _⟩ := st
  obtain ⟨a, ws, e, ha, hp⟩ := h
  refine ⟨a, ws, e, ?_, L2.Paired.mapP hp fun _ _ h => TRow.off el o h⟩
  rcases ha with (ha | ⟨x, ha⟩) | ha
  · exact .inl (.inl (o _ _ (ne_of ha el (by intro z; cases z)) ha))
  · exact .inl (.inr ⟨x, o _ _ (ne_of ha el (by intro z; cases z)) ha⟩)
  · exact .inr ha
def sp_law_unit (K : PySem.W.Frag) : Sp := fun vs H Q _ => ∃ n : Nat, vs = [.int n] ∧ n ≤ 1000 ∧ ∀ v H', Same H H' → TRows K H' v (unitM n) → Q v H'
theorem ok_law_unit (T : Top K mg) (hN : base.NoSeer) (hT : P.given.tree = none) : FnOk P w K mg base CX0 1 T.a_law_unit T.d_law_unit ["n"] (sp_law_unit K) := by
  refine T.F_law_unit.ok sc_law_unit (fun vs H Q E h => ?_) (fun cdv A outer s H vs Q E hr h => ?_)
  · obtain ⟨n, rfl, _⟩ := h
    rfl
  · obtain ⟨n, rfl, hn, q⟩ := h
    refine ⟨_, (pss_one (ps_ret (pe_callTy (tupK K rfl) (by rfl) T.z_tuple (by decide +kernel) (pa_cons (pe_lc (own := [("i", 1)]) (g := (gName 1)) (by rfl) sc_law_unit.nd (pi_range1 (by rfl) T.z_range (pa_cons (pv 0) pa_nil)) ((by show BlkOk ["n", "i", "k"] (defScope s_law_unit) _ _; exact blkOk_by (by decide +kernel))) (fun _ _ _ _ _ => (pg_name (i := 1) sc_law_unit.nd rfl (by first | exact .inl rfl | exact .inr rfl))) (fun _ _ _ _ _ => pts_nil) (fun _ _ _ _ _ => (pe_callTy (tupK K rfl) (by rfl) T.z_tuple (by decide +kernel) (pa_cons (pe_lc (own := [("k", 2)]) (g := (gName 2)) (by rfl) sc_law_unit.nd (pi_range1 (by rfl) T.z_range (pa_cons (pv 0) pa_nil)) ((by show BlkOk ["n", "i", "k"] (relS _ (defScope s_law_unit)) _ _; exact blkOk_by (by decide +kernel))) (fun _ _ _ _ _ => (pg_name (i := 2) sc_law_unit.nd rfl (by first | exact .inl rfl | exact .inr rfl))) (fun _ _ _ _ _ => pts_nil) (fun _ _ _ _ _ => (pe_callTy (call_int1) (by rfl) T.z_int (by decide +kernel) (pa_cons (pe_cmpR op_eq (pv 1) (pv 2) (nomark _)) pa_nil)))) pa_nil)))) pa_nil)))), ?_⟩
    refine ⟨_, rfl, (n : Int), rfl, by omega, by omega, fun D1 hD1 => ?_⟩
    rw [show ((n : Int)).toNat = n from Int.toNat_natCast _]
    refine lc_all walk_range hD1 (by omega) (fun _ _ => trivial) (fun i v H2 => ∃ r, (unitM n)[i]? = some r ∧ TRow K H2 v r) (fun i v H4 H5 acc e o ⟨r, er, h⟩ => ⟨r, er, TRow.off e o h⟩) ?_ gm_name ?_
    · rintro i x H2 H2' acc Ko hi s2 eD ⟨rfl, rfl⟩ k
      refine ⟨rfl, ?_⟩
      refine ⟨_, rfl, (n : Int), rfl, by omega, by omega, fun D3 hD3 => ?_⟩
      rw [show ((n : Int)).toNat = n from Int.toNat_natCast _]
      refine lc_all walk_range hD3 (by omega) (fun _ _ => trivial) (fun j v _ => ∃ z, (unitU n i)[j]? = some z ∧ v = .int z) (fun _ _ _ _ _ _ _ h => h) ?_ gm_name ?_
      · rintro j y H4 H4' acc4 Ko4 hj s4 eD4 ⟨rfl, rfl⟩ k4
        refine ⟨rfl, ?_⟩
        refine ⟨_, rfl, _, rfl, rfl, .inr ⟨_, rfl, ?_⟩⟩
        refine k4 _ _ (Same.refl _) ⟨if i = j then 1 else 0, by unfold unitU; rw [List.getElem?_map, List.getElem?_range hj]; rfl, ?_⟩
        by_cases h : i = j
        · rw [if_pos h, if_pos (decide_eq_true (by rw [h]))]
        · rw [if_neg h, if_neg (by rw [decide_eq_false (fun z => h (by have := V.int.inj z; omega))]; decide)]
      · intro H4 l4 s4 eD4 hp4
        have el := ints_list (by rw [unitU_len]) hp4
        subst el
        refine ⟨D3, _, rfl, .inl ⟨.inl (.inl eD4), fun t nt => ?_⟩⟩
        exact k _ _ (s4.trans (same_upd nt)) ⟨unitU n i, by unfold unitM; rw [List.getElem?_map, List.getElem?_range hi]; rfl, t, rfl, .inl (.inl upd_same)⟩
    · intro H2 l s2 eD hpl
      refine ⟨D1, l, rfl, .inl ⟨.inl (.inl eD), fun t nt => ?_⟩⟩
      refine q _ _ (s2.trans (same_upd nt)) ⟨t, l, rfl, .inl (.inl upd_same), ?_⟩
      exact L2.Paired.mapP (paired_at (m := unitM n) (by rw [unitM_len]) hpl) fun _ _ => TRow.same (same_upd nt)
theorem cal_law_unit (T : Top K mg) (hN : base.NoSeer) (hT : P.given.tree = none) : Cal P w K mg base 1 "_law_unit" (sp_law_unit K) [] := ⟨⟨_, _, _, [], ok_law_unit T hN hT, T.g_law_unit, T.F_law_unit.kp, T.b_law_unit, .nil⟩⟩
def sp_law_step (K : PySem.W.Frag) : Sp := fun vs H Q _ => ∃ (v : V) (m : List (List Int)) (n i k t : Nat) (c : Int), vs = [v, .int i, .int k, .int c] ∧ TRows K H v m ∧ UniT n t m ∧ t ≤ 6 ∧ n ≤ 4 ∧ i < n ∧ k < n ∧ c.natAbs ≤ 2 ∧ ∀ v' H', Same H H' → TRows K H' v' (stepM m i k c) → Q v' H'
theorem ok_law_step (T : Top K mg) (hN : base.NoSeer) (hT : P.given.tree = none) : FnOk P w K mg base CX0 1 T.a_law_step T.d_law_step ["rows", "i", "k", "factor"] (sp_law_step K) := by
  refine T.F_law_step.ok sc_law_step (fun vs H Q E h => ?_) (fun cdv A outer s H vs Q E hr h => ?_)
  · obtain ⟨v, m, n, i, k, t, c, rfl, _⟩ := h
    rfl
  · obtain ⟨v, m, n, i, k, t, c, rfl, hv, U, ht, n4, hi, hk, hc, q⟩ := h
    obtain ⟨a, ws, rfl, ha, hp⟩ := id hv
    have lws := Paired.length hp
    have lm := U.sz.len
    obtain ⟨ei, mi, li⟩ := uniT_row U hi
    obtain ⟨ek, mk, lk⟩ := uniT_row U hk
    have bnd : ∀ r ∈ m, ∀ z ∈ r, z.natAbs < 2 ^ 10 := fun r hr z hz => by
      have h1 := l1_at hz
      have h2 := U.l1 r hr
      have h3 : 3 ^ t ≤ 3 ^ 6 := Nat.pow_le_pow_right (by decide) ht
      omega
    refine ⟨_, (pss_cons (ps_set (i := 4) sc_law_step.nd rfl (by first | exact .inl rfl | exact .inr rfl) (pe_callTy (listK K rfl) (by rfl) T.z_list (by decide +kernel) (pa_cons (pv 0) pa_nil)))
      (pss_cons (ps_if (pt_cmpR op_eq (pv 1) (pv 2) (nomark _))
      (pss_one (ps_asg (pe_callTy (tupK K rfl) (by rfl) T.z_tuple (by decide +kernel) (pa_cons (pe_lc (own := [("x", 5)]) (g := (gName 5)) (by rfl) sc_law_step.nd (piS K rfl (pe_ix (ixT K rfl) (pv 0) (pv 1) (fun _ _ => rfl))) ((by show BlkOk ["rows", "i", "k", "factor", "out", "x", "y"] (defScope s_law_step) _ _; exact blkOk_by (by decide +kernel))) (fun _ _ _ _ _ => (pg_name (i := 5) sc_law_step.nd rfl (by first | exact .inl rfl | exact .inr rfl))) (fun _ _ _ _ _ => pts_nil) (fun _ _ _ _ _ => (pe_un un_neg (pv 5)))) pa_nil)) (pg_sub (pv 4) (pv 1) set_list)))
      (pss_one (ps_asg (pe_callTy (tupK K rfl) (by rfl) T.z_tuple (by decide +kernel) (pa_cons (pe_lc (own := [("x", 5), ("y", 6)]) (g := (gTup K 2 (gCons (gName 5) (gCons (gName 6) gNil)))) (by rfl) sc_law_step.nd (RZ.pi_zipA (by rfl) T.z_zip (pa_cons (pe_ix (ixT K rfl) (pv 0) (pv 1) (fun _ _ => rfl)) (pa_cons (pe_ix (ixT K rfl) (pv 0) (pv 2) (fun _ _ => rfl)) pa_nil))) ((by show BlkOk ["rows", "i", "k", "factor", "out", "x", "y"] (defScope s_law_step) _ _; exact blkOk_by (by decide +kernel))) (fun _ _ _ _ _ => (pg_tup rfl (pgs_cons (pg_name (i := 5) sc_law_step.nd rfl (by first | exact .inl rfl | exact .inr rfl)) (pgs_cons (pg_name (i := 6) sc_law_step.nd rfl (by first | exact .inl rfl | exact .inr rfl)) pgs_nil)))) (fun _ _ _ _ _ => pts_nil) (fun _ _ _ _ _ => (pe_op op_add (pv 5) (pe_op op_mulX (pv 3) (pv 6))))) pa_nil)) (pg_sub (pv 4) (pv 1) set_list))))
      (pss_one (ps_ret (pe_callTy (tupK K rfl) (by rfl) T.z_tuple (by decide +kernel) (pa_cons (pv 4) pa_nil)))))), ?_⟩
    refine ⟨_, rfl, a, ws, rfl, .inr ha, fun L nL => ?_⟩
    have s1 := same_upd (o := .lst ws) nL
    have eL : (upd H L (.lst ws)) L = some (.lst ws) := upd_same
    have ha1 := Same.seqT s1 ha
    have hp1 := L2.Paired.mapP hp fun _ _ => TRow.same s1
    generalize upd H L (.lst ws) = H1 at s1 eL ha1 hp1 ⊢
    obtain ⟨vi, evi, pi, rfl, hpi⟩ := Paired.getL hp1 ei
    obtain ⟨vk, evk, pk, rfl, hpk⟩ := Paired.getL hp1 ek
    -- the end
    have fin : ∀ (tp : Addr) (H2 : Hp) (r' : List Int), Same H1 H2 → TRow K H2 (.ref tp) r' → stepM m i k c = m.set i r' → ∀ y4 y5 y6 : Option V, True → ∀ tq, (upd H2 L (.lst (ws.set i (.ref tp)))) tq = none → TRows K (upd (upd H2 L (.lst (ws.set i (.ref tp)))) tq (.tup (ws.set i (.ref tp)))) (.ref tq) (stepM m i k c) ∧ Same H (upd (upd H2 L (.lst (ws.set i (.ref tp)))) tq (.tup (ws.set i (.ref tp)))) := fun tp H2 r' s2 hr' e _ _ _ _ tq ntq => by
      have hL2 := s2 _ _ eL
      have oL : Off L H2 (upd H2 L (.lst (ws.set i (.ref tp)))) := Off.upd
      have s3 := same_upd (o := .tup (ws.set i (.ref tp))) ntq
      refine ⟨⟨tq, _, rfl, .inl (.inl upd_same), ?_⟩, fun b o eb => s3 _ _ ?_⟩
      · rw [e]
        refine paired_set (TRow.same s3 (TRow.off hL2 oL hr')) i (L2.Paired.mapP hp1 fun _ _ h => TRow.same s3 (TRow.off hL2 oL (TRow.same s2 h)))
      · have nb : b ≠ L := ne_of_none eb nL
        rw [L2.upd_ne nb]
        exact s2 _ _ (s1 _ _ eb)
    refine ⟨_, rfl, _, rfl, rfl, _, rfl, ?_⟩
    by_cases hij : V.int (i : Int) = V.int (k : Int)
    · rw [decide_eq_true hij]
      refine iteT ?_
      have eik : i = k := by have := V.int.inj hij; omega
      refine ⟨_, rfl, _, rfl, a, ws, _, _, rfl, rfl, ha1, at_of (j := i) rfl evi, pi, _, rfl, .inr hpi, fun J1 G1 W1 hG1 D1 hD1 => ?_⟩
      refine lc_all W1 hD1 (by rw [List.length_map]; omega) (fun Ha sa => hG1 Ha fun b _ o => sa b o) (fun j v _ => ∃ z, (negR (m.getD i []))[j]? = some z ∧ v = .int z) (fun _ _ _ _ _ _ _ h => h) ?_ gm_name ?_
      · rintro j y Ha Ha' acc Ko hj sa eDa ⟨rfl, ey⟩ kk
        obtain ⟨z, ez, rfl⟩ := ints_get ey
        refine ⟨rfl, _, rfl, _, rfl, ?_⟩
        exact kk _ _ (Same.refl _) ⟨-z, by unfold negR; rw [List.getElem?_map, ez]; rfl, rfl⟩
      · intro Ha la sa eDa hpa
        have el := ints_list (by unfold negR; rw [List.length_map, List.length_map]) hpa
        subst el
        refine ⟨D1, _, rfl, .inl ⟨.inl (.inl eDa), fun tp ntp => ?_⟩⟩
        have s5 := sa.trans (same_upd (o := .tup ((negR (m.getD i [])).map V.int)) ntp)
        refine ⟨_, rfl, _, rfl, L, ws, _, i, rfl, rfl, s5 _ _ eL, ixN_nat (by omega), ?_⟩
        refine ⟨_, rfl, L, _, rfl, .inl ⟨.inl (.inl upd_same), fun tq ntq => ?_⟩⟩
        obtain ⟨f1, f2⟩ := fin tp _ (negR (m.getD i [])) s5 ⟨tp, rfl, .inl (.inl upd_same)⟩ (by unfold stepM; rw [if_pos eik]) none none none trivial tq ntq
        exact q _ _ f2 f1
    · rw [decide_eq_false hij]
      refine iteF ?_
      have eik : i ≠ k := fun e => hij (by rw [e])
      refine ⟨_, rfl, _, rfl, a, ws, _, _, rfl, rfl, ha1, at_of (j := i) rfl evi, _, rfl, _, rfl, a, ws, _, _, rfl, rfl, ha1, at_of (j := k) rfl evk, ?_⟩
      refine ⟨pi, pk, _, _, rfl, .inr ⟨hpi, hpk, fun D1 hD1 => ?_⟩⟩
      have W1 : Walk (RZ.ItzT K pi pk) n (fun H => SqT K H pi ((m.getD i []).map V.int) ∧ SqT K H pk ((m.getD k []).map V.int)) (YPair (fun j => ((m.getD i []).map V.int)[j]?) (fun j => ((m.getD k []).map V.int)[j]?)) := walk_zipT (by rw [List.length_map, List.length_map, li, lk, Nat.min_self])
      refine lc_all W1 hD1 (by omega) (fun Ha sa => ⟨Same.seqT sa hpi, Same.seqT sa hpk⟩) (fun j v _ => ∃ z, (zipR c (m.getD i []) (m.getD k []))[j]? = some z ∧ v = .int z) (fun _ _ _ _ _ _ _ h => h) ?_ gm_pair ?_
      · rintro j z Ha Ha' acc Ko hj sa eDa ⟨U2, x1, x2, rfl, nU, rfl, e1, e2⟩ kk
        obtain ⟨z1, ez1, rfl⟩ := ints_get e1
        obtain ⟨z2, ez2, rfl⟩ := ints_get e2
        refine g_pair nU ⟨rfl, ?_⟩
        refine ⟨_, rfl, _, rfl, _, rfl, _, _, rfl, rfl, mulx_ok (show c.natAbs < 2 ^ 10 by omega) (bnd _ mk z2 (List.mem_of_getElem? ez2)) (by decide), ?_⟩
        refine ⟨_, _, rfl, rfl, ?_⟩
        refine kk _ _ (same_upd nU) ⟨z1 + c * z2, ?_, rfl⟩
        unfold zipR
        rw [List.getElem?_zipWith, ez1, ez2]
      · intro Ha la sa eDa hpa
        have el := ints_list (by rw [zipR_len li lk]) hpa
        subst el
        refine ⟨D1, _, rfl, .inl ⟨.inl (.inl eDa), fun tp ntp => ?_⟩⟩
        have s5 := sa.trans (same_upd (o := .tup ((zipR c (m.getD i []) (m.getD k [])).map V.int)) ntp)
        refine ⟨_, rfl, _, rfl, L, ws, _, i, rfl, rfl, s5 _ _ eL, ixN_nat (by omega), ?_⟩
        refine ⟨_, rfl, L, _, rfl, .inl ⟨.inl (.inl upd_same), fun tq ntq => ?_⟩⟩
        obtain ⟨f1, f2⟩ := fin tp _ (zipR c (m.getD i []) (m.getD k [])) s5 ⟨tp, rfl, .inl (.inl upd_same)⟩ (by unfold stepM; rw [if_neg eik]) none none none trivial tq ntq
        exact q _ _ f2 f1
theorem cal_law_step (T : Top K mg) (hN : base.NoSeer) (hT : P.given.tree = none) : Cal P w K mg base 1 "_law_step" (sp_law_step K) [] := ⟨⟨_, _, _, [], ok_law_step T hN hT, T.g_law_step, T.F_law_step.kp, T.b_law_step, .nil⟩⟩
def sp_law_unimodular_t (K : PySem.W.Frag) : Sp := fun vs H Q _ => ∃ (p : Addr) (n : Nat), vs = [.ref p, .int n] ∧ StAt H p ∧ n ≤ 4 ∧ ∀ v m H', Off p H H' → StAt H' p → TRows K H' v m → UniT n 4 m → Q v H'
theorem ok_law_unimodular_t (T : Top K mg) (hN : base.NoSeer) (hT : P.given.tree = none) : FnOk P w K mg base CX0 2 T.a_law_unimodular T.d_law_unimodular ["state", "n"] (sp_law_unimodular_t K) := by
  refine T.F_law_unimodular.ok sc_law_unimodular (fun vs H Q E h => ?_) (fun cdv A outer s H vs Q E hr h => ?_)
  · obtain ⟨p, n, rfl, _⟩ := h
    rfl
  · obtain ⟨p, n, rfl, st, n4, q⟩ := h
    refine ⟨_, (pss_cons (ps_set (i := 2) sc_law_unimodular.nd rfl (by first | exact .inl rfl | exact .inr rfl) (pe_c (cal_law_unit T hN hT) hr (by decide) (by rfl) (pa_cons (pv 1) pa_nil)))
      (pss_cons (ps_if (pt_cmpR op_eq (pv 1) pe_int (nomark _))
      (pss_one (ps_ret (pv 2)))
      pss_nil)
      (pss_cons (ps_for PassesOwn.never rfl (pi_range1 (by rfl) T.z_range (pa_cons (pe_op op_add pe_int (pe_c (cal_law_take T hN hT) hr (by decide) (by rfl) (pa_cons (pv 0) (pa_cons pe_int pa_nil)))) pa_nil)) (pg_name (i := 3) sc_law_unimodular.nd rfl (by first | exact .inl rfl | exact .inr rfl))
      (pss_one (ps_set (i := 2) sc_law_unimodular.nd rfl (by first | exact .inl rfl | exact .inr rfl) (pe_c (cal_law_step T hN hT) hr (by decide) (by rfl) (pa_cons (pv 2) (pa_cons (pe_c (cal_law_take T hN hT) hr (by decide) (by rfl) (pa_cons (pv 0) (pa_cons (pv 1) pa_nil))) (pa_cons (pe_c (cal_law_take T hN hT) hr (by decide) (by rfl) (pa_cons (pv 0) (pa_cons (pv 1) pa_nil))) (pa_cons (pe_op op_sub (pe_c (cal_law_take T hN hT) hr (by decide) (by rfl) (pa_cons (pv 0) (pa_cons pe_int pa_nil))) pe_int) pa_nil))))))))
      (pss_one (ps_ret (pv 2)))))), ?_⟩
    refine ⟨_, rfl, n, rfl, by omega, fun v H1 s1 h1 => ?_⟩
    refine ⟨_, rfl, rfl, _, rfl, ?_⟩
    by_cases h0 : n = 0
    · rw [show decide (V.int (n : Int) = V.int 0) = true from decide_eq_true (by rw [h0]; rfl)]
      refine iteT ?_
      exact ⟨_, rfl, q _ _ _ (Same.off s1) (st.same s1) h1 (uniT_up (uniT_unit n4) (by omega))⟩
    · rw [show decide (V.int (n : Int) = V.int 0) = false from decide_eq_false fun z => h0 (by have := V.int.inj z; omega)]
      refine iteF ?_
      refine ⟨_, rfl, p, 4, rfl, st.same s1, by decide, by decide, fun r H2 hr2 o2 st2 => ⟨_, _, rfl, rfl, ?_⟩⟩
      obtain ⟨t, ht, ht4⟩ : ∃ t : Nat, 1 + (r : Int) = (t : Int) ∧ t ≤ 4 := ⟨1 + r, by omega, by omega⟩
      refine ⟨(t : Int), congrArg (fun z => [V.int z]) ht, by omega, by omega, ?_⟩
      rw [show ((t : Int)).toNat = t from Int.toNat_natCast _]
      refine for_it walk_range (fun j σ H3 => ∃ (v : V) (m : List (List Int)) (y3 : Option V), σ = [some (.ref p), some (.int n), some v, y3] ∧ Off p H H3 ∧ StAt H3 p ∧ TRows K H3 v m ∧ UniT n j m) ⟨v, unitM n, none, rfl, Off.trans (Same.off s1) o2, st2, trowsS (st.same s1) o2 h1, uniT_unit n4⟩ (fun _ _ _ _ _ => trivial) ?_ ?_
      · rintro j x σ H3 H3' hj ⟨v, m, y3, rfl, o3, st3, hv, U⟩ ⟨rfl, rfl⟩
        have n0 : 0 < n := by omega
        refine ⟨_, rfl, _, rfl, _, rfl, p, n, rfl, st3, n0, by omega, fun i H4 hi o4 st4 => ?_⟩
        refine ⟨_, rfl, _, rfl, p, n, rfl, st4, n0, by omega, fun k H5 hk o5 st5 => ?_⟩
        refine ⟨_, rfl, p, 5, rfl, st5, by decide, by decide, fun c H6 hc o6 st6 => ⟨_, _, rfl, rfl, ?_⟩⟩
        have o36 := Off.trans o4 (Off.trans o5 o6)
        refine ⟨v, m, n, i, k, j, (c : Int) - 2, rfl, trowsS st3 o36 hv, U, by omega, n4, hi, hk, by omega, fun v' H7 s7 h7 => ?_⟩
        exact ⟨v', _, _, rfl, Off.trans o3 (Off.trans o36 (Same.off s7)), st6.same s7, h7, uniT_step U n4 hi hk (by omega)⟩
      · rintro σ H3 ⟨v, m, y3, rfl, o3, st3, hv, U⟩
        exact ⟨_, rfl, q _ _ _ o3 st3 hv (uniT_up U ht4)⟩
theorem cal_law_unimodular (T : Top K mg) (hN : base.NoSeer) (hT : P.given.tree = none) : Cal P w K mg base 2 "_law_unimodular" (sp_law_unimodular_t K) [] := ⟨⟨_, _, _, [], ok_law_unimodular_t T hN hT, T.g_law_unimodular, T.F_law_unimodular.kp, T.b_law_unimodular, .nil⟩⟩

end
end K44
namespace K44
open PySem PySem.Spec PyProof.Rows L2 Gm
open C8 (Cal Met Mak pe_c pe_mt pe_mt0 pe_mk)
section
variable {P : Program} {w : World} {K : PySem.W.Frag} {mg : Str → Option Value} {base : Heap}
/-! ### diagonal, unit -/
def diagM (ns : List Int) : List (List Int) := (List.range ns.length).map fun i => (List.range ns.length).map fun j => if i = j then ns.getD i 0 else 0
theorem diagM_len (ns : List Int) : (diagM ns).length = ns.length := by
  unfold diagM
  rw [List.length_map, List.length_range]
theorem diagM_row {ns : List Int} : ∀ r ∈ diagM ns, r.length = ns.length := fun r hr => by
  unfold diagM at hr
  obtain ⟨i, _, rfl⟩ := List.mem_map.mp hr
  rw [List.length_map, List.length_range]
theorem diagM_get {ns : List Int} {i : Nat} (h : i < ns.length) : (diagM ns).getD i [] = (List.range ns.length).map fun j => if i = j then ns.getD i 0 else 0 := by
  unfold diagM
  rw [List.getD_eq_getElem?_getD, List.getElem?_map, List.getElem?_range h]
  rfl
def sp_diagonal (K : PySem.W.Frag) (C : Addr) : Sp := fun vs H Q _ => ∃ v ns, vs = [v] ∧ IRow K H v ns ∧ ns.length ≤ 1000 ∧ ∀ g H', Same H H' → IsGrid K C H' g (diagM ns) ns.length → Q g H'
theorem ok_diagonal (T : Top K mg) (hN : base.NoSeer) (hT : P.given.tree = none) : FnOk P w K mg base CX0 5 T.a_diagonal T.d_diagonal ["numbers"] (sp_diagonal K T.C_Grid) := by
  refine T.F_diagonal.ok sc_diagonal (fun vs H Q E h => ?_) (fun cdv A outer s H vs Q E hr h => ?_)
  · obtain ⟨v, ns, rfl, _⟩ := h
    rfl
  · obtain ⟨v, ns, rfl, ⟨a, rfl, hs⟩, hl, q⟩ := h
    refine ⟨_, (pss_cons (ps_set (i := 1) sc_diagonal.nd rfl (by first | exact .inl rfl | exact .inr rfl) (pe_callTy (cr_range1) (by rfl) T.z_range (by decide +kernel) (pa_cons (pe_callB (lenS K rfl) (by rfl) T.z_len (by decide +kernel) (pa_cons (pv 0) pa_nil)) pa_nil)))
      (pss_one (ps_ret (pe_mk (mak_Grid T hN hT) hr (by decide) (by rfl) (pa_cons (pe_lc (own := [("i", 2)]) (g := (gName 2)) (by rfl) sc_diagonal.nd (pi_rngv (pv 1)) ((by show BlkOk ["numbers", "places", "i", "j"] (defScope s_diagonal) _ _; exact blkOk_by (by decide +kernel))) (fun _ _ _ _ _ => (pg_name (i := 2) sc_diagonal.nd rfl (by first | exact .inl rfl | exact .inr rfl))) (fun _ _ _ _ _ => pts_nil) (fun _ _ _ _ _ => (pe_lc (own := [("j", 3)]) (g := (gName 3)) (by rfl) sc_diagonal.nd (pi_rngv (pv 1)) ((by show BlkOk ["numbers", "places", "i", "j"] (relS _ (defScope s_diagonal)) _ _; exact blkOk_by (by decide +kernel))) (fun _ _ _ _ _ => (pg_name (i := 3) sc_diagonal.nd rfl (by first | exact .inl rfl | exact .inr rfl))) (fun _ _ _ _ _ => pts_nil) (fun _ _ _ _ _ => (pe_ifExp (pt_cmpR op_eq (pv 2) (pv 3) (nomark _)) (pe_ix (ixS K rfl) (pv 0) (pv 2) (fun _ _ => rfl)) pe_int))))) (pa_cons (pe_callB (lenS K rfl) (by rfl) T.z_len (by decide +kernel) (pa_cons (pv 0) pa_nil)) pa_nil)))))), ?_⟩
    refine ⟨_, rfl, a, _, rfl, hs, _, rfl, fun pr npr => ?_⟩
    have s1 : Same H (upd H pr (.rng 0 ((ns.map V.int).length : Nat))) := same_upd npr
    refine ⟨_, rfl, pr, _, _, rfl, upd_same, ⟨by decide, by decide, by rw [List.length_map]; omega, by rw [List.length_map]; omega⟩, fun D hD => ?_⟩
    refine lc_all walk_range hD (by rw [List.length_map]; omega) (fun _ _ => trivial) (fun i v H4 => ∃ p, v = V.ref p ∧ p ≠ D ∧ H4 p = some (.lst (((diagM ns).getD i []).map V.int))) lists_mono ?_ gm_name ?_
    · rintro i x H4 H4' acc Ko hi s4 eD ⟨rfl, rfl⟩ k
      rw [List.length_map] at hi
      have hi' : i < ns.length := by omega
      refine ⟨rfl, ?_⟩
      have epr : H4' pr = some (.rng 0 ((ns.map V.int).length : Nat)) := s4 _ _ upd_same
      refine ⟨_, rfl, pr, _, _, rfl, epr, ⟨by decide, by decide, by rw [List.length_map]; omega, by rw [List.length_map]; omega⟩, fun D2 hD2 => ?_⟩
      refine lc_all walk_range hD2 (by rw [List.length_map]; omega) (fun _ _ => trivial) (fun j v _ => ∃ z, ((diagM ns).getD i [])[j]? = some z ∧ v = .int z) (fun _ _ _ _ _ _ _ h => h) ?_ gm_name ?_
      · rintro j y H5 H5' acc2 Ko2 hj s5 eD2 ⟨rfl, rfl⟩ k2
        rw [List.length_map] at hj
        have hj' : j < ns.length := by omega
        refine ⟨rfl, ?_⟩
        refine ⟨_, rfl, _, rfl, rfl, _, rfl, ?_⟩
        by_cases h : i = j
        · subst h
          rw [decide_eq_true rfl]
          refine iteT ?_
          refine ⟨_, rfl, _, rfl, ?_⟩
          refine rIx_seq (hs.same (s1.trans (s4.trans s5))) (at_of (j := i) (by omega) (ints_at (List.getElem?_eq_getElem hi'))) ?_
          refine k2 _ _ (Same.refl _) ⟨ns[i], ?_, rfl⟩
          rw [diagM_get hi', List.getElem?_map, List.getElem?_range hi']
          show some (if i = i then ns.getD i 0 else 0) = some ns[i]
          rw [if_pos rfl, List.getD_eq_getElem?_getD, List.getElem?_eq_getElem hi']
          rfl
        · rw [show decide (V.int (0 + (i : Int)) = V.int (0 + (j : Int))) = false from decide_eq_false fun z => h (by have := V.int.inj z; omega)]
          refine iteF ?_
          refine k2 _ _ (Same.refl _) ⟨0, ?_, rfl⟩
          rw [diagM_get hi', List.getElem?_map, List.getElem?_range hj']
          show some (if i = j then ns.getD i 0 else 0) = some 0
          rw [if_neg h]
      · intro H5 l s5 eD2 hpl
        have el := ints_list (by rw [diagM_get hi', List.length_map, List.length_map, List.length_range]; omega) hpl
        refine k _ _ s5 ⟨D2, rfl, ?_, by rw [← el]; exact eD2⟩
        rintro rfl
        rw [eD] at hD2
        cases hD2
    · intro H4 l s4 eD hpl
      have hrows := lists_rows (K := K) (m := diagM ns) (by rw [diagM_len, List.length_map]; omega) eD hpl
      have sm := s1.trans s4
      refine ⟨_, rfl, a, _, rfl, hs.same sm, ?_⟩
      rw [List.length_map]
      exact make_grid hrows (by rw [diagM_len]; exact hl) hl diagM_row fun g H' s' G' => q g H' (sm.trans s') G'
theorem cal_diagonal (T : Top K mg) (hN : base.NoSeer) (hT : P.given.tree = none) : Cal P w K mg base 5 "diagonal" (sp_diagonal K T.C_Grid) [] := ⟨⟨_, _, _, [], ok_diagonal T hN hT, T.g_diagonal, T.F_diagonal.kp, T.b_diagonal, .nil⟩⟩

end
end K44
namespace K44
open PySem PySem.Spec PyProof.Rows L2 Gm
open C8 (Cal Met Mak pe_c pe_mt pe_mt0 pe_mk)
section
variable {P : Program} {w : World} {K : PySem.W.Frag} {mg : Str → Option Value} {base : Heap}
theorem rep_ints (c : Int) : ∀ n : Nat, (List.replicate n [V.int c]).flatten = (List.replicate n c).map V.int
  | 0 => rfl
  | n + 1 => by
    rw [List.replicate_succ, List.flatten_cons, rep_ints c n, List.replicate_succ]
    rfl
def sp_unit (K : PySem.W.Frag) (C : Addr) : Sp := fun vs H Q _ => ∃ n : Nat, vs = [.int n] ∧ n ≤ 1000 ∧ ∀ g H', Same H H' → IsGrid K C H' g (diagM (List.replicate n 1)) n → Q g H'
theorem ok_unit (T : Top K mg) (hN : base.NoSeer) (hT : P.given.tree = none) : FnOk P w K mg base CX0 6 T.a_unit T.d_unit ["n"] (sp_unit K T.C_Grid) := by
  refine T.F_unit.ok sc_unit (fun vs H Q E h => ?_) (fun cdv A outer s H vs Q E hr h => ?_)
  · obtain ⟨n, rfl, _⟩ := h
    rfl
  · obtain ⟨n, rfl, hn, q⟩ := h
    refine ⟨_, (pss_one (ps_ret (pe_c (cal_diagonal T hN hT) hr (by decide) (by rfl) (pa_cons (pe_op op_rep (pe_lst (pa_cons pe_int pa_nil)) (pv 0)) pa_nil)))), ?_⟩
    refine ⟨by show 1 ≤ sizeLine; decide, fun l nl => ?_⟩
    refine ⟨_, rfl, l, (n : Int), [.int 1], rfl, rfl, upd_same, by omega, by omega, ?_, fun p np => ?_⟩
    · rw [Int.toNat_natCast, List.length_singleton, Nat.one_mul]
      exact Nat.le_of_lt (small1000 hn)
    · have e : (List.replicate ((n : Int)).toNat [V.int 1]).flatten = (List.replicate n (1 : Int)).map V.int := by
        rw [Int.toNat_natCast]
        exact rep_ints 1 n
      rw [e]
      have s2 : Same H (upd (upd H l (.lst [.int 1])) p (.lst ((List.replicate n (1 : Int)).map V.int))) := (same_upd nl).trans (same_upd np)
      refine ⟨_, List.replicate n 1, rfl, ⟨p, rfl, .inl (.inl (.inl upd_same))⟩, by rw [List.length_replicate]; exact hn, fun g H' s' G => ?_⟩
      rw [List.length_replicate] at G
      exact q g H' (s2.trans s') G
theorem cal_unit (T : Top K mg) (hN : base.NoSeer) (hT : P.given.tree = none) : Cal P w K mg base 6 "unit" (sp_unit K T.C_Grid) [] := ⟨⟨_, _, _, [], ok_unit T hN hT, T.g_unit, T.F_unit.kp, T.b_unit, .nil⟩⟩
/-! ### sizes -/
def sp_check_same_size (K : PySem.W.Frag) (C : Addr) : Sp := fun vs H Q _ => ∃ v m w u m2, vs = [v, u] ∧ IsGrid K C H v m w ∧ IsGrid K C H u m2 w ∧ m.length = m2.length ∧ Q .non H

end
end K44
namespace K44
open PySem PySem.Spec PyProof.Rows L2 Gm
open C8 (Cal Met Mak pe_c pe_mt pe_mt0 pe_mk)
section
variable {P : Program} {w : World} {K : PySem.W.Frag} {mg : Str → Option Value} {base : Heap}
/-! ### spans and unit rows -/
def sumF : Nat → (Nat → Int) → Int
  | 0, _ => 0
  | n + 1, f => sumF n f + f n
abbrev fn (x : List Int) : Nat → Int := fun i => x.getD i 0
def ent (m : List (List Int)) (i j : Nat) : Int := (m.getD i []).getD j 0
theorem sumF_congr {n : Nat} {f g : Nat → Int} (h : ∀ i, i < n → f i = g i) : sumF n f = sumF n g := by
  induction n with
  | zero => rfl
  | succ n ih =>
    show sumF n f + f n = sumF n g + g n
    rw [ih fun i hi => h i (by omega), h n (by omega)]
theorem sumF_lin (n : Nat) (f g : Nat → Int) (a : Int) : sumF n (fun i => f i + a * g i) = sumF n f + a * sumF n g := by
  induction n with
  | zero => show (0 : Int) = 0 + a * 0; omega
  | succ n ih =>
    show sumF n (fun i => f i + a * g i) + (f n + a * g n) = sumF n f + f n + a * (sumF n g + g n)
    rw [ih]
    grind
theorem sumF_zero (n : Nat) : sumF n (fun _ => 0) = 0 := by
  induction n with
  | zero => rfl
  | succ n ih => show sumF n (fun _ => 0) + 0 = 0; rw [ih]; rfl
theorem spn_comb {R : List (List Int)} {g : Nat → Nat → Int} {c : Nat → Int} : ∀ k, (∀ b, b < k → Spn R (g b)) → Spn R (fun l => sumF k fun b => c b * g b l)
  | 0, _ => Spn.zero R
  | k + 1, h => by
    have h1 := spn_comb (c := c) k fun b hb => h b (by omega)
    have h2 := (h k (by omega)).smul (c k)
    exact (h1.add h2).cong fun l => rfl
theorem spn_out {R : List (List Int)} {f : Nat → Int} (h : Spn R f) : ∃ c : Nat → Int, ∀ l, f l = sumF R.length fun j => c j * fn (R.getD j []) l := by
  have key : ∀ (R Q : List (List Int)) (f : Nat → Int), Spn R f → ∃ c : Nat → Int, ∀ l, f l = sumF R.length fun j => c j * fn (R.getD j []) l := fun R => by
    induction R with
    | nil => intro Q f h; exact ⟨fun _ => 0, h⟩
    | cons r R ih =>
      intro Q f ⟨a, h⟩
      obtain ⟨c, hc⟩ := ih Q _ h
      refine ⟨fun j => match j with | 0 => a | j + 1 => c j, fun l => ?_⟩
      have e : ∀ (n : Nat) (F : Nat → Int), sumF (n + 1) F = F 0 + sumF n fun j => F (j + 1) := fun n F => by
        induction n with
        | zero => show 0 + F 0 = F 0 + 0; omega
        | succ n ih2 =>
          show sumF (n + 1) F + F (n + 1) = F 0 + ((sumF n fun j => F (j + 1)) + F (n + 1))
          rw [ih2]
          omega
      rw [List.length_cons, e]
      have h1 : f l - a * r.getD l 0 = _ := hc l
      show f l = a * r.getD l 0 + sumF R.length fun j => c j * fn (R.getD j []) l
      omega
  exact key R R f h
theorem unit_get {k i j : Nat} (hi : i < k) : fn (unitU k i) j = if i = j then 1 else 0 := by
  show (unitU k i).getD j 0 = _
  unfold unitU
  rw [List.getD_eq_getElem?_getD, List.getElem?_map]
  by_cases hj : j < k
  · rw [List.getElem?_range hj]
    rfl
  · rw [List.getElem?_eq_none (by rw [List.length_range]; omega), if_neg (by omega)]
    rfl
theorem spn_units {k : Nat} {R : List (List Int)} (h : ∀ i, i < k → Spn R (fn (unitU k i))) {f : Nat → Int} (hf : ∀ j, k ≤ j → f j = 0) : Spn R f := by
  have h1 := spn_comb (c := f) (g := fun b => fn (unitU k b)) k h
  refine h1.cong fun l => ?_
  have key : ∀ c, c ≤ k → (sumF c fun b => f b * fn (unitU k b) l) = if l < c then f l else 0 := fun c => by
    induction c with
    | zero => intro _; rfl
    | succ c ih =>
      intro hc
      show (sumF c fun b => f b * fn (unitU k b) l) + f c * fn (unitU k c) l = _
      rw [ih (by omega), unit_get (by omega)]
      by_cases h1 : c = l
      · subst h1
        rw [if_neg (by omega), if_pos rfl, if_pos (by omega)]
        omega
      · rw [if_neg h1, Int.mul_zero]
        by_cases h2 : l < c
        · rw [if_pos h2, if_pos (by omega)]
          omega
        · rw [if_neg h2, if_neg (by omega)]
          rfl
  show (sumF k fun b => f b * fn (unitU k b) l) = f l
  rw [key k (Nat.le_refl _)]
  split
  · rfl
  · exact (hf l (by omega)).symm
def Full (k : Nat) (R : List (List Int)) : Prop := ∀ i, i < k → Spn R (fn (unitU k i))
def unitT (k : Nat) : Tops := (List.range k).map fun i => (i, unitU k i)
theorem unitT_rows (k : Nat) : rowsT (unitT k) = unitM k := by
  unfold rowsT unitT unitM
  rw [List.map_map]
  rfl
theorem unitT_ech (k : Nat) : Ech k (unitT k) := by
  refine ⟨?_, fun p hp => ?_⟩
  · unfold unitT
    rw [List.pairwise_map]
    exact List.pairwise_lt_range
  · obtain ⟨i, hi, rfl⟩ := List.mem_map.mp hp
    have hi' := List.mem_range.mp hi
    refine ⟨hi', unitU_len, fun j hj => ?_, ?_⟩
    · show fn (unitU k i) j = 0
      rw [unit_get hi', if_neg (by have : j < i := hj; omega)]
    · show 0 < fn (unitU k i) i
      rw [unit_get hi', if_pos rfl]
      decide
theorem tid_of : ∀ {T : Tops}, T.Pairwise (fun p q => 0 ≤ p.2.getD q.1 0 ∧ p.2.getD q.1 0 < q.2.getD q.1 0) → Tid T
  | [], _ => trivial
  | p :: T, h => ⟨(List.pairwise_cons.mp h).1, tid_of (List.pairwise_cons.mp h).2⟩
theorem unitT_tid (k : Nat) : Tid (unitT k) := by
  refine tid_of ?_
  unfold unitT
  rw [List.pairwise_map]
  refine List.Pairwise.imp_of_mem (R := fun a b => a < b) (fun {a b} ha hb hab => ?_) List.pairwise_lt_range
  have ha' := List.mem_range.mp ha
  have hb' := List.mem_range.mp hb
  show 0 ≤ fn (unitU k a) b ∧ fn (unitU k a) b < fn (unitU k b) b
  rw [unit_get ha', unit_get hb', if_neg (by omega), if_pos rfl]
  exact ⟨Int.le_refl _, by decide⟩
theorem prim_iff {k B : Nat} {R : List (List Int)} {T : Tops} (h : HRes k B R R.length T) : rowsT T = unitM k ↔ Full k R := by
  have hs := h.span
  rw [List.take_length] at hs
  constructor
  · intro e i hi
    refine (hs _).mp ?_
    rw [e]
    exact Spn.mem (List.mem_map.mpr ⟨i, List.mem_range.mpr hi, rfl⟩)
  · intro hf
    have hT : T = unitT k := herm_uniq h.E (unitT_ech k) h.tid (unitT_tid k) fun x => by
      rw [unitT_rows]
      constructor
      · refine Spn.sub fun r hr => ?_
        obtain ⟨p, hp, rfl⟩ := List.mem_map.mp hr
        refine spn_units (k := k) (fun i hi => Spn.mem (List.mem_map.mpr ⟨i, List.mem_range.mpr hi, rfl⟩)) fun j hj => ?_
        exact getD_none (by rw [(h.E.pv p hp).len]; exact hj)
      · refine Spn.sub fun r hr => ?_
        obtain ⟨i, hi, rfl⟩ := List.mem_map.mp hr
        exact (hs _).mpr (hf i (List.mem_range.mp hi))
    rw [hT, unitT_rows]
theorem prim_dec {k B : Nat} {R : List (List Int)} {T : Tops} (h : HRes k B R R.length T) {p : Prop} [Decidable p] (hp : Full k R ↔ p) : decide (rowsT T = unitM k) = decide p := by
  by_cases h1 : p
  · rw [decide_eq_true h1, decide_eq_true ((prim_iff h).mpr (hp.mpr h1))]
  · rw [decide_eq_false h1, decide_eq_false fun e => h1 (hp.mp ((prim_iff h).mp e))]

end
end K44
namespace K44
open PySem PySem.Spec PyProof.Rows L2 Gm
open C8 (Cal Met Mak pe_c pe_mt pe_mt0 pe_mk)
section
variable {P : Program} {w : World} {K : PySem.W.Frag} {mg : Str → Option Value} {base : Heap}
theorem sumF_shift (n : Nat) (F : Nat → Int) : sumF (n + 1) F = F 0 + sumF n fun j => F (j + 1) := by
  induction n with
  | zero => show 0 + F 0 = F 0 + 0; omega
  | succ n ih2 =>
    show sumF (n + 1) F + F (n + 1) = F 0 + ((sumF n fun j => F (j + 1)) + F (n + 1))
    rw [ih2]
    omega
theorem sumF_mul (n : Nat) (f : Nat → Int) (a : Int) : sumF n (fun i => a * f i) = a * sumF n f := by
  have := sumF_lin n (fun _ => 0) f a
  rw [sumF_zero] at this
  rw [Int.zero_add] at this
  rw [← this]
  exact sumF_congr fun i _ => by omega
def dotI' (x y : List Int) : Int := dotI x y
theorem dot_sum : ∀ {n : Nat} {x y : List Int}, x.length = n → y.length = n → dotI x y = sumF n fun a => fn x a * fn y a
  | 0, [], [], _, _ => rfl
  | n + 1, a :: x, b :: y, hx, hy => by
    rw [sumF_shift, show dotI (a :: x) (b :: y) = a * b + dotI x y from rfl, dot_sum (n := n) (by simpa using hx) (by simpa using hy)]
    rfl
theorem row_ent {M : List (List Int)} {l j : Nat} : ent M l j = fn (M.getD l []) j := rfl
theorem map_ent {M : List (List Int)} {l j : Nat} : (M.map fun r => r.getD j 0).getD l 0 = ent M l j := by
  unfold ent
  rw [List.getD_eq_getElem?_getD, List.getElem?_map, List.getD_eq_getElem?_getD (l := M)]
  cases M[l]? <;> rfl
theorem tr_fn {M : List (List Int)} {n j l : Nat} (hj : j < n) : fn ((transp M n).getD j []) l = ent M l j := by
  show ((transp M n).getD j []).getD l 0 = _
  rw [transp_get hj, map_ent]
theorem tr_row {M : List (List Int)} {n j : Nat} (hj : j < n) : (transp M n).getD j [] ∈ transp M n := by
  have h : j < (transp M n).length := by rw [transp_len]; exact hj
  rw [List.getD_eq_getElem?_getD, List.getElem?_eq_getElem h]
  exact List.getElem_mem h
theorem mul_ent {A B : List (List Int)} {n w l i : Nat} (hl : l < A.length) (hi : i < w) (hA : ∀ r ∈ A, r.length = n) (hB : B.length = n) : ent (mulM A B w) l i = sumF n fun a => ent A l a * ent B a i := by
  have eA : A[l]? = some (A.getD l []) := by rw [List.getD_eq_getElem?_getD, List.getElem?_eq_getElem hl]; rfl
  have e1 : (mulM A B w).getD l [] = (transp B w).map fun c => dotI (A.getD l []) c := by
    unfold mulM
    rw [List.getD_eq_getElem?_getD, List.getElem?_map, eA]
    rfl
  have hi' : i < (transp B w).length := by rw [transp_len]; exact hi
  have eB : (transp B w)[i]? = some ((transp B w).getD i []) := by rw [List.getD_eq_getElem?_getD, List.getElem?_eq_getElem hi']; rfl
  have lB : ((transp B w).getD i []).length = n := by rw [transp_row _ (tr_row hi), hB]
  unfold ent
  rw [e1, List.getD_eq_getElem?_getD, List.getElem?_map, eB]
  show dotI (A.getD l []) ((transp B w).getD i []) = _
  rw [dot_sum (hA _ (List.mem_of_getElem? eA)) lB]
  exact sumF_congr fun a _ => by rw [tr_fn hi]; rfl
theorem scal_ent {n l i : Nat} {d : Int} (hl : l < n) (hi : i < n) : ent (scalM n d) l i = d * (if l = i then 1 else 0) := by
  unfold ent scalM
  rw [List.getD_eq_getElem?_getD (l := (List.range n).map _), List.getElem?_map, List.getElem?_range hl]
  show ((List.range n).map fun k => d * (if l = k then 1 else 0)).getD i 0 = _
  rw [List.getD_eq_getElem?_getD, List.getElem?_map, List.getElem?_range hi]
  rfl
theorem due_len' (n : Nat) (m : List (List Int)) : (dueM n m).length = n := by
  unfold dueM
  rw [List.length_map, List.length_range]
/-- the sums by the adjugate -/
theorem due_sum {n : Nat} {M : List (List Int)} (h4 : n ≤ 4) (hs : Sz n M) {l i : Nat} (hl : l < n) (hi : i < n) : (sumF n fun a => ent (dueM n M) a i * ent M l a) = detL n M * (if l = i then 1 else 0) := by
  have h1 := mul_ent (w := n) (l := l) (i := i) (by rw [hs.len]; exact hl) hi hs.row (due_len' n M)
  rw [mul_due h4 hs, scal_ent hl hi] at h1
  rw [h1]
  exact sumF_congr fun a _ => Int.mul_comm ..
theorem inv_sum {n : Nat} {M : List (List Int)} (h4 : n ≤ 4) (hs : Sz n M) (hd : (detL n M).natAbs = 1) : ∃ Y : Nat → Nat → Int, ∀ l i, l < n → i < n → (sumF n fun a => Y a i * ent M l a) = if l = i then 1 else 0 := by
  refine ⟨fun a i => detL n M * ent (dueM n M) a i, fun l i hl hi => ?_⟩
  rw [sumF_congr (g := fun a => detL n M * (ent (dueM n M) a i * ent M l a)) fun a _ => Int.mul_assoc .., sumF_mul, due_sum h4 hs hl hi, ← Int.mul_assoc]
  rcases (show detL n M = 1 ∨ detL n M = -1 by omega) with e | e <;> rw [e] <;> split <;> rfl
theorem take_ent {W : List (List Int)} {k l j : Nat} : ent (W.take k) l j = if l < k then ent W l j else 0 := by
  unfold ent
  rw [List.getD_eq_getElem?_getD (l := W.take k), List.getElem?_take]
  by_cases h : l < k
  · rw [if_pos h, if_pos h, List.getD_eq_getElem?_getD (l := W)]
  · rw [if_neg h, if_neg h]
    rfl
/-- P2 -/
theorem full_take {n k : Nat} {W : List (List Int)} (h4 : n ≤ 4) (hs : Sz n W) (hd : (detL n W).natAbs = 1) (hk : k ≤ n) : Full k (transp (W.take k) n) := fun i hi => by
  obtain ⟨Y, hY⟩ := inv_sum h4 hs hd
  have h := spn_comb (R := transp (W.take k) n) (g := fun b => fn ((transp (W.take k) n).getD b [])) (c := fun b => Y b i) n fun b hb => Spn.mem (tr_row hb)
  refine h.cong fun l => ?_
  show (sumF n fun b => Y b i * fn ((transp (W.take k) n).getD b []) l) = _
  rw [sumF_congr (g := fun b => Y b i * (if l < k then ent W l b else 0)) fun b hb => by rw [tr_fn hb, take_ent], unit_get hi]
  by_cases hl : l < k
  · rw [sumF_congr (g := fun b => Y b i * ent W l b) fun b _ => by rw [if_pos hl], hY l i (by omega) (by omega)]
    by_cases e : l = i
    · rw [if_pos e, if_pos e.symm]
    · rw [if_neg e, if_neg fun z => e z.symm]
  · rw [sumF_congr (g := fun _ => 0) fun b _ => by rw [if_neg hl, Int.mul_zero], sumF_zero, if_neg (by omega)]
theorem mat_ext {k : Nat} {A B : List (List Int)} (hA : Sz k A) (hB : Sz k B) (h : ∀ l i, l < k → i < k → ent A l i = ent B l i) : A = B := by
  apply List.ext_getElem
  · rw [hA.len, hB.len]
  · intro l h1 h2
    have hl : l < k := by rw [hA.len] at h1; exact h1
    refine list_ext (w := k) (hA.row _ (List.getElem_mem h1)) (hB.row _ (List.getElem_mem h2)) fun i => ?_
    have e1 : A[l].getD i 0 = ent A l i := by
      unfold ent
      rw [List.getD_eq_getElem?_getD (l := A), List.getElem?_eq_getElem h1]
      rfl
    have e2 : B[l].getD i 0 = ent B l i := by
      unfold ent
      rw [List.getD_eq_getElem?_getD (l := B), List.getElem?_eq_getElem h2]
      rfl
    by_cases hi : i < k
    · rw [e1, e2, h l i hl hi]
    · rw [getD_none (by rw [hA.row _ (List.getElem_mem h1)]; omega), getD_none (by rw [hB.row _ (List.getElem_mem h2)]; omega)]
theorem unitM_sz (k : Nat) : Sz k (unitM k) := ⟨unitM_len, fun r hr => by
  obtain ⟨i, _, rfl⟩ := List.mem_map.mp hr
  exact unitU_len⟩
theorem unitM_ent {k l i : Nat} (hl : l < k) : ent (unitM k) l i = fn (unitU k l) i := by
  unfold ent unitM
  rw [List.getD_eq_getElem?_getD (l := (List.range k).map _), List.getElem?_map, List.getElem?_range hl]
  rfl
/-- P3 -/
theorem full_mul {n k : Nat} {W X : List (List Int)} (h4 : n ≤ 4) (hW : Full k (transp W n)) (lW : W.length = k) (rW : ∀ r ∈ W, r.length = n) (hk : k ≤ 4) (hX : Sz k X) : Full k (transp (mulM X W n) n) ↔ (detL k X).natAbs = 1 := by
  have lm : (mulM X W n).length = k := by rw [mulM_len, hX.len]
  have eR : ∀ j l, j < n → fn ((transp (mulM X W n) n).getD j []) l = if l < k then sumF k fun a => ent X l a * ent W a j else 0 := fun j l hj => by
    rw [tr_fn hj]
    by_cases hl : l < k
    · rw [if_pos hl, mul_ent (by rw [hX.len]; exact hl) hj hX.row lW]
    · rw [if_neg hl]
      unfold ent
      rw [List.getD_eq_getElem?_getD (l := mulM X W n), List.getElem?_eq_none (by omega)]
      rfl
  constructor
  · intro hF
    -- each unit vector is an image
    have him : ∀ f, Spn (transp (mulM X W n) n) f → ∃ y : Nat → Int, ∀ l, l < k → f l = sumF k fun a => ent X l a * y a := fun f hf => by
      refine Spn.prop (fun f => ∃ y : Nat → Int, ∀ l, l < k → f l = sumF k fun a => ent X l a * y a) ⟨fun _ => 0, fun l _ => ?_⟩ ?_ (fun r hr => ?_) hf
      · rw [sumF_congr (g := fun _ => 0) fun a _ => Int.mul_zero _, sumF_zero]
      · rintro x y a ⟨u, hu⟩ ⟨v, hv⟩
        refine ⟨fun b => u b + a * v b, fun l hl => ?_⟩
        show x l + a * y l = _
        rw [hu l hl, hv l hl, ← sumF_lin]
        exact sumF_congr fun b _ => by grind
      · obtain ⟨j, ej⟩ := List.getElem?_of_mem hr
        have hj : j < n := by
          have := (List.getElem?_eq_some_iff.mp ej).1
          rwa [transp_len] at this
        have er : r = (transp (mulM X W n) n).getD j [] := by rw [List.getD_eq_getElem?_getD, ej]; rfl
        refine ⟨fun a => ent W a j, fun l hl => ?_⟩
        show fn r l = _
        rw [er, eR j l hj, if_pos hl]
    have hy : ∀ i, ∃ y : Nat → Int, i < k → ∀ l, l < k → fn (unitU k i) l = sumF k fun a => ent X l a * y a := fun i => by
      by_cases hi : i < k
      · obtain ⟨y, hy⟩ := him _ (hF i hi)
        exact ⟨y, fun _ => hy⟩
      · exact ⟨fun _ => 0, fun h => absurd h hi⟩
    obtain ⟨y, hy⟩ := Classical.axiomOfChoice hy
    -- X times these is the unit matrix
    have hYs : Sz k ((List.range k).map fun a => (List.range k).map fun i => y i a) := ⟨by rw [List.length_map, List.length_range], fun r hr => by
      obtain ⟨a, _, rfl⟩ := List.mem_map.mp hr
      rw [List.length_map, List.length_range]⟩
    obtain ⟨Y, hYe⟩ : ∃ Y, (List.range k).map (fun a => (List.range k).map fun i => y i a) = Y := ⟨_, rfl⟩
    rw [hYe] at hYs
    have hYent : ∀ a i, a < k → i < k → ent Y a i = y i a := fun a i ha hi => by
      rw [← hYe]
      unfold ent
      rw [List.getD_eq_getElem?_getD (l := (List.range k).map _), List.getElem?_map, List.getElem?_range ha]
      show ((List.range k).map fun i => y i a).getD i 0 = _
      rw [List.getD_eq_getElem?_getD, List.getElem?_map, List.getElem?_range hi]
      rfl
    have hone : mulM X Y k = unitM k := mat_ext ⟨by rw [mulM_len, hX.len], mulM_row⟩ (unitM_sz k) fun l i hl hi => by
      rw [unitM_ent hl, unit_get hl, mul_ent (by rw [hX.len]; exact hl) hi hX.row hYs.len, sumF_congr (g := fun a => ent X l a * y i a) fun a ha => by rw [hYent a i ha hi], ← hy i hi l hl, unit_get hi]
      by_cases e : l = i
      · rw [if_pos e, if_pos e.symm]
      · rw [if_neg e, if_neg fun z => e z.symm]
    have hdet := det_mul hk hX hYs
    rw [hone] at hdet
    have h1 : detL k (unitM k) = 1 := by
      rcases (show k = 0 ∨ k = 1 ∨ k = 2 ∨ k = 3 ∨ k = 4 by omega) with rfl | rfl | rfl | rfl | rfl <;> decide
    rw [h1] at hdet
    have h2 : (detL k X).natAbs * (detL k Y).natAbs = 1 := by rw [← Int.natAbs_mul, ← hdet]; rfl
    exact Nat.dvd_one.mp ⟨_, h2.symm⟩
  · intro hd i hi
    obtain ⟨Y, hY⟩ := inv_sum hk hX hd
    -- the image of a span
    have him : ∀ f, Spn (transp W n) f → Spn (transp (mulM X W n) n) (fun l => if l < k then sumF k fun a => ent X l a * f a else 0) := fun f hf => by
      refine Spn.prop (fun f => Spn (transp (mulM X W n) n) (fun l => if l < k then sumF k fun a => ent X l a * f a else 0)) ?_ ?_ (fun r hr => ?_) hf
      · refine (Spn.zero _).cong fun l => ?_
        rw [sumF_congr (g := fun _ => 0) fun a _ => Int.mul_zero _, sumF_zero]
        split <;> rfl
      · intro x y a hx hy
        refine (hx.add (hy.smul a)).cong fun l => ?_
        by_cases hl : l < k
        · rw [if_pos hl, if_pos hl, if_pos hl, ← sumF_lin]
          exact sumF_congr fun b _ => by grind
        · rw [if_neg hl, if_neg hl, if_neg hl]
          omega
      · obtain ⟨j, ej⟩ := List.getElem?_of_mem hr
        have hj : j < n := by
          have := (List.getElem?_eq_some_iff.mp ej).1
          rwa [transp_len] at this
        have er : r = (transp W n).getD j [] := by rw [List.getD_eq_getElem?_getD, ej]; rfl
        refine (Spn.mem (tr_row (M := mulM X W n) hj)).cong fun l => ?_
        show fn ((transp (mulM X W n) n).getD j []) l = _
        rw [eR j l hj]
        by_cases hl : l < k
        · rw [if_pos hl, if_pos hl]
          exact sumF_congr fun a _ => by rw [er]; show _ = ent X l a * fn ((transp W n).getD j []) a; rw [tr_fn hj]
        · rw [if_neg hl, if_neg hl]
    have hyi : Spn (transp W n) (fun a => if a < k then Y a i else 0) := spn_units hW fun j hj => by rw [if_neg (by omega)]
    refine (him _ hyi).cong fun l => ?_
    rw [unit_get hi]
    by_cases hl : l < k
    · rw [if_pos hl, sumF_congr (g := fun a => Y a i * ent X l a) fun a ha => by rw [if_pos ha, Int.mul_comm], hY l i hl hi]
      by_cases e : l = i
      · rw [if_pos e, if_pos e.symm]
      · rw [if_neg e, if_neg fun z => e z.symm]
    · rw [if_neg hl, if_neg (by omega)]

end
end K44
namespace K44
open PySem PySem.Spec PyProof.Rows L2 Gm
open C8 (Cal Met Mak pe_c pe_mt pe_mt0 pe_mk)
section
variable {P : Program} {w : World} {K : PySem.W.Frag} {mg : Str → Option Value} {base : Heap}
/-! ### a Hermite form cut at a column -/
def cutT (w : Nat) : Tops → Tops
  | [] => []
  | p :: T => if p.1 < w then (p.1, p.2.take w) :: cutT w T else cutT w T
def hM (w : Nat) (T : Tops) : List (List Int) := (rowsT T).map fun r => r.take w
def uM (w : Nat) (T : Tops) : List (List Int) := (rowsT T).map fun r => r.drop w
theorem take_get {r : List Int} {w j : Nat} (hj : j < w) : (r.take w).getD j 0 = r.getD j 0 := by
  rw [List.getD_eq_getElem?_getD, List.getElem?_take, if_pos hj, List.getD_eq_getElem?_getD]
theorem drop_get {r : List Int} {w j : Nat} : (r.drop w).getD j 0 = r.getD (w + j) 0 := by
  rw [List.getD_eq_getElem?_getD, List.getElem?_drop, List.getD_eq_getElem?_getD]
theorem mem_cutT {w : Nat} {q : Nat × List Int} : ∀ {T : Tops}, q ∈ cutT w T → ∃ p ∈ T, p.1 < w ∧ q = (p.1, p.2.take w)
  | p :: T, h => by
    unfold cutT at h
    split at h
    · rename_i hp
      rcases List.mem_cons.mp h with rfl | h
      · exact ⟨p, List.mem_cons_self .., hp, rfl⟩
      · obtain ⟨p', h1, h2⟩ := mem_cutT h
        exact ⟨p', List.mem_cons_of_mem _ h1, h2⟩
    · obtain ⟨p', h1, h2⟩ := mem_cutT h
      exact ⟨p', List.mem_cons_of_mem _ h1, h2⟩
theorem cut_pv {w g : Nat} {p : Nat × List Int} (h : Pv (w + g) p) (hp : p.1 < w) : Pv w (p.1, p.2.take w) := by
  refine ⟨hp, ?_, fun j hj => ?_, ?_⟩
  · show (p.2.take w).length = w
    rw [List.length_take, h.len]
    omega
  · show (p.2.take w).getD j 0 = 0
    have hj' : j < p.1 := hj
    rw [take_get (by omega)]
    exact h.zero j hj'
  · show 0 < (p.2.take w).getD p.1 0
    rw [take_get hp]
    exact h.pos
theorem cut_ech {w g : Nat} : ∀ {T : Tops}, Ech (w + g) T → Ech w (cutT w T)
  | [], _ => ⟨List.Pairwise.nil, fun p hp => (by cases hp)⟩
  | p :: T, E => by
    obtain ⟨hp, hl⟩ := E.head
    have ih := cut_ech E.tail
    unfold cutT
    split
    · rename_i h
      refine ih.cons (cut_pv hp h) fun q hq => ?_
      obtain ⟨p', h1, _, rfl⟩ := mem_cutT hq
      exact hl p' h1
    · exact ih
theorem cut_tid {w : Nat} : ∀ {T : Tops}, Tid T → Tid (cutT w T)
  | [], _ => trivial
  | p :: T, t => by
    unfold cutT
    split
    · refine ⟨fun q hq => ?_, cut_tid t.2⟩
      obtain ⟨p', h1, h2, rfl⟩ := mem_cutT hq
      show 0 ≤ (p.2.take w).getD p'.1 0 ∧ (p.2.take w).getD p'.1 0 < (p'.2.take w).getD p'.1 0
      rw [take_get h2, take_get h2]
      exact t.1 p' h1
    · exact cut_tid t.2
/-- behind w there are zero rows only -/
theorem cut_rows {w g : Nat} : ∀ {T : Tops}, Ech (w + g) T → hM w T = rowsT (cutT w T) ++ List.replicate (T.length - (cutT w T).length) (List.replicate w 0) ∧ (cutT w T).length ≤ T.length
  | [], _ => ⟨rfl, Nat.le_refl _⟩
  | p :: T, E => by
    obtain ⟨hp, hl⟩ := E.head
    obtain ⟨ih, ihl⟩ := cut_rows E.tail
    by_cases h : p.1 < w
    · have e : cutT w (p :: T) = (p.1, p.2.take w) :: cutT w T := by
        rw [cutT, if_pos h]
      rw [e]
      refine ⟨?_, by rw [List.length_cons, List.length_cons]; omega⟩
      show p.2.take w :: hM w T = (p.2.take w :: rowsT (cutT w T)) ++ _
      rw [ih, List.length_cons, List.length_cons, List.cons_append, Nat.add_sub_add_right]
    · -- all the rest is zero
      have hz : ∀ q ∈ p :: T, ¬ q.1 < w := fun q hq => by
        rcases List.mem_cons.mp hq with rfl | hq
        · exact h
        · have := hl q hq
          omega
      have hc : ∀ S : Tops, (∀ q ∈ S, ¬ q.1 < w) → cutT w S = [] := fun S => by
        induction S with
        | nil => intro _; rfl
        | cons q S ihS =>
          intro hS
          rw [cutT, if_neg (hS q (List.mem_cons_self ..)), ihS fun q' hq' => hS q' (List.mem_cons_of_mem _ hq')]
      rw [hc _ hz]
      refine ⟨?_, Nat.zero_le _⟩
      show hM w (p :: T) = List.replicate ((p :: T).length - 0) _
      rw [Nat.sub_zero]
      refine List.eq_replicate_iff.mpr ⟨by unfold hM rowsT; rw [List.length_map, List.length_map], fun r hr => ?_⟩
      unfold hM rowsT at hr
      rw [List.map_map] at hr
      obtain ⟨q, hq, rfl⟩ := List.mem_map.mp hr
      have hpv := E.pv q hq
      refine list_ext (w := w) (by show (q.2.take w).length = w; rw [List.length_take, hpv.len]; omega) (List.length_replicate ..) fun j => ?_
      show (q.2.take w).getD j 0 = _
      have e2 : (List.replicate w (0 : Int)).getD j 0 = 0 := by
        rw [List.getD_eq_getElem?_getD, List.getElem?_replicate]
        split <;> rfl
      rw [e2]
      by_cases hj : j < w
      · rw [take_get hj]
        exact hpv.zero j (by have := hz q hq; omega)
      · exact getD_none (by rw [List.length_take]; omega)
theorem spn_app {R S : List (List Int)} (hS : ∀ s ∈ S, ∀ j, s.getD j 0 = 0) {x : Nat → Int} : Spn (R ++ S) x ↔ Spn R x := by
  constructor
  · refine Spn.sub fun r hr => ?_
    rcases List.mem_append.mp hr with h | h
    · exact Spn.mem h
    · exact (Spn.zero R).cong fun j => (hS r h j).symm
  · exact Spn.sub fun r hr => Spn.mem (List.mem_append_left _ hr)
/-- the rows cut at w -/
def cutF (w : Nat) (f : Nat → Int) : Nat → Int := fun j => if j < w then f j else 0
theorem spn_cut {R : List (List Int)} {w : Nat} {f : Nat → Int} (h : Spn R f) : Spn (R.map fun r => r.take w) (cutF w f) := by
  refine Spn.prop (fun f => Spn (R.map fun r => r.take w) (cutF w f)) ?_ (fun x y a hx hy => ?_) (fun r hr => ?_) h
  · refine (Spn.zero _).cong fun j => ?_
    unfold cutF
    split <;> rfl
  · refine (hx.add (hy.smul a)).cong fun j => ?_
    unfold cutF
    split
    · rfl
    · omega
  · refine (Spn.mem (List.mem_map.mpr ⟨r, hr, rfl⟩)).cong fun j => ?_
    unfold cutF
    split
    · rename_i hj
      exact take_get hj
    · rename_i hj
      exact getD_none (by rw [List.length_take]; omega)
/-- the span of the cut form is that of the cut rows -/
theorem cut_span {w g : Nat} {T : Tops} {N : List (List Int)} (E : Ech (w + g) T) (hs : ∀ x, Spn (rowsT T) x ↔ Spn N x) (x : Nat → Int) : Spn (rowsT (cutT w T)) x ↔ Spn (N.map fun r => r.take w) x := by
  have h1 : Spn (rowsT (cutT w T)) x ↔ Spn (hM w T) x := by
    rw [(cut_rows E).1]
    refine (spn_app fun s hs j => ?_).symm
    rw [(List.mem_replicate.mp hs).2, List.getD_eq_getElem?_getD, List.getElem?_replicate]
    split <;> rfl
  rw [h1]
  have side : ∀ {R S : List (List Int)}, (∀ x, Spn R x → Spn S x) → Spn (R.map fun r => r.take w) x → Spn (S.map fun r => r.take w) x := fun {R S} h => Spn.sub fun r hr => by
    obtain ⟨q, hq, rfl⟩ := List.mem_map.mp hr
    refine (spn_cut (h _ (Spn.mem hq))).cong fun j => ?_
    unfold cutF
    split
    · rename_i hj
      exact (take_get hj).symm
    · rename_i hj
      exact (getD_none (by rw [List.length_take]; omega)).symm
  exact ⟨side fun x => (hs x).mp, side fun x => (hs x).mpr⟩
/-- the form of rows is one alone -/
theorem cut_uniq {w g g' : Nat} {T S : Tops} {N M : List (List Int)} (E : Ech (w + g) T) (E' : Ech (w + g') S) (t : Tid T) (t' : Tid S) (hs : ∀ x, Spn (rowsT T) x ↔ Spn N x) (hs' : ∀ x, Spn (rowsT S) x ↔ Spn M x) (h : ∀ x, Spn (N.map fun r => r.take w) x ↔ Spn (M.map fun r => r.take w) x) : cutT w T = cutT w S :=
  herm_uniq (cut_ech E) (cut_ech E') (cut_tid t) (cut_tid t') fun x => (cut_span E hs x).trans ((h x).trans (cut_span E' hs' x).symm)

end
end K44
namespace K44
open PySem PySem.Spec PyProof.Rows L2 Gm
open C8 (Cal Met Mak pe_c pe_mt pe_mt0 pe_mk)
section
variable {P : Program} {w : World} {K : PySem.W.Frag} {mg : Str → Option Value} {base : Heap}
/-! ### rows noted with the unit rows -/
def noteM (A : List (List Int)) (h : Nat) : List (List Int) := List.zipWith (fun r o => r ++ o) A (unitM h)
theorem note_len {A : List (List Int)} {h : Nat} (hA : A.length = h) : (noteM A h).length = h := by
  unfold noteM
  rw [List.length_zipWith, hA, unitM_len, Nat.min_self]
theorem note_at {A : List (List Int)} {h i : Nat} (hA : A.length = h) (hi : i < h) : (noteM A h)[i]? = some (A.getD i [] ++ unitU h i) := by
  have e1 : A[i]? = some (A.getD i []) := by rw [List.getD_eq_getElem?_getD, List.getElem?_eq_getElem (by omega)]; rfl
  have e2 : (unitM h)[i]? = some (unitU h i) := by unfold unitM; rw [List.getElem?_map, List.getElem?_range hi]; rfl
  unfold noteM
  rw [List.getElem?_zipWith, e1, e2]
theorem note_getD {A : List (List Int)} {h i : Nat} (hA : A.length = h) (hi : i < h) : (noteM A h).getD i [] = A.getD i [] ++ unitU h i := by
  rw [List.getD_eq_getElem?_getD, note_at hA hi]
  rfl
theorem row_len {A : List (List Int)} {h w i : Nat} (hA : A.length = h) (rA : ∀ r ∈ A, r.length = w) (hi : i < h) : (A.getD i []).length = w := by
  have hi' : i < A.length := by omega
  have e : A.getD i [] = A[i] := by rw [List.getD_eq_getElem?_getD, List.getElem?_eq_getElem hi']; rfl
  rw [e]
  exact rA _ (List.getElem_mem hi')
theorem app_l {x y : List Int} {w j : Nat} (hx : x.length = w) (hj : j < w) : fn (x ++ y) j = fn x j := by
  show (x ++ y).getD j 0 = x.getD j 0
  rw [List.getD_eq_getElem?_getD, List.getElem?_append_left (by omega), List.getD_eq_getElem?_getD]
theorem app_r {x y : List Int} {w j : Nat} (hx : x.length = w) : fn (x ++ y) (w + j) = fn y j := by
  show (x ++ y).getD (w + j) 0 = y.getD j 0
  rw [List.getD_eq_getElem?_getD, List.getElem?_append_right (by omega), List.getD_eq_getElem?_getD, hx, Nat.add_sub_cancel_left]
theorem note_row {A : List (List Int)} {h w : Nat} (hA : A.length = h) (rA : ∀ r ∈ A, r.length = w) : ∀ r ∈ noteM A h, r.length = w + h := fun r hr => by
  obtain ⟨i, ei⟩ := List.getElem?_of_mem hr
  have hi : i < h := by
    have := (List.getElem?_eq_some_iff.mp ei).1
    rwa [note_len hA] at this
  rw [note_at hA hi] at ei
  have := Option.some.inj ei
  rw [← this, List.length_append, row_len hA rA hi, unitU_len]
theorem sumF_delta {h i : Nat} {F : Nat → Int} (hi : i < h) : (sumF h fun k => (if i = k then 1 else 0) * F k) = F i := by
  have key : ∀ c, c ≤ h → (sumF c fun k => (if i = k then 1 else 0) * F k) = if i < c then F i else 0 := fun c => by
    induction c with
    | zero => intro _; rfl
    | succ c ih =>
      intro hc
      show (sumF c fun k => (if i = k then 1 else 0) * F k) + (if i = c then 1 else 0) * F c = _
      rw [ih (by omega)]
      by_cases e : i = c
      · subst e
        rw [if_neg (by omega), if_pos rfl, if_pos (by omega)]
        omega
      · rw [if_neg e, Int.zero_mul]
        by_cases e2 : i < c
        · rw [if_pos e2, if_pos (by omega)]
          omega
        · rw [if_neg e2, if_neg (by omega)]
          rfl
  rw [key h (Nat.le_refl _), if_pos hi]
/-- a left inverse -/
theorem det_left {k : Nat} {U : List (List Int)} {c : Nat → Nat → Int} (hk : k ≤ 4) (hU : Sz k U) (hc : ∀ i l, i < k → l < k → (sumF k fun b => c i b * ent U b l) = if i = l then 1 else 0) : (detL k U).natAbs = 1 := by
  have hCs : Sz k ((List.range k).map fun i => (List.range k).map fun b => c i b) := ⟨by rw [List.length_map, List.length_range], fun r hr => by
    obtain ⟨a, _, rfl⟩ := List.mem_map.mp hr
    rw [List.length_map, List.length_range]⟩
  obtain ⟨C, hCe⟩ : ∃ C, (List.range k).map (fun i => (List.range k).map fun b => c i b) = C := ⟨_, rfl⟩
  rw [hCe] at hCs
  have hCent : ∀ i b, i < k → b < k → ent C i b = c i b := fun i b hi hb => by
    rw [← hCe]
    unfold ent
    rw [List.getD_eq_getElem?_getD (l := (List.range k).map _), List.getElem?_map, List.getElem?_range hi]
    show ((List.range k).map fun b => c i b).getD b 0 = _
    rw [List.getD_eq_getElem?_getD, List.getElem?_map, List.getElem?_range hb]
    rfl
  have hone : mulM C U k = unitM k := mat_ext ⟨by rw [mulM_len, hCs.len], mulM_row⟩ (unitM_sz k) fun i l hi hl => by
    rw [unitM_ent hi, unit_get hi, mul_ent (by rw [hCs.len]; exact hi) hl hCs.row hU.len, sumF_congr (g := fun b => c i b * ent U b l) fun b hb => by rw [hCent i b hi hb], hc i l hi hl]
  have hdet := det_mul hk hCs hU
  rw [hone] at hdet
  have h1 : detL k (unitM k) = 1 := by
    rcases (show k = 0 ∨ k = 1 ∨ k = 2 ∨ k = 3 ∨ k = 4 by omega) with rfl | rfl | rfl | rfl | rfl <;> decide
  rw [h1] at hdet
  have h2 : (detL k U).natAbs * (detL k C).natAbs = 1 := by rw [Nat.mul_comm, ← Int.natAbs_mul, ← hdet]; rfl
  exact Nat.dvd_one.mp ⟨_, h2.symm⟩
/-- what the form of noted rows tells -/
structure HForm (A : List (List Int)) (h w : Nat) (T : Tops) : Prop where
  E : Ech (w + h) T
  tid : Tid T
  len : T.length = h
  span : ∀ x, Spn (rowsT T) x ↔ Spn (noteM A h) x
theorem hform {A : List (List Int)} {h w B : Nat} {T : Tops} (hA : A.length = h) (rA : ∀ r ∈ A, r.length = w) (R : HRes (w + h) B (noteM A h) (noteM A h).length T) : HForm A h w T := by
  have hs := R.span
  rw [List.take_length] at hs
  refine ⟨R.E, R.tid, ?_, hs⟩
  rw [R.full fun i hi => ?_, note_len hA]
  rw [note_len hA] at hi
  refine ⟨w + i, fun k hk => ?_, ?_⟩
  · rw [note_getD hA (by omega)]
    show fn (A.getD k [] ++ unitU h k) (w + i) = 0
    rw [app_r (row_len hA rA (by omega)), unit_get (by omega), if_neg (by omega)]
  · rw [note_getD hA hi]
    show fn (A.getD i [] ++ unitU h i) (w + i) ≠ 0
    rw [app_r (row_len hA rA hi), unit_get hi, if_pos rfl]
    decide
theorem hM_ent {w : Nat} {T : Tops} {b j : Nat} (hj : j < w) : ent (hM w T) b j = fn ((rowsT T).getD b []) j := by
  unfold ent hM
  rw [List.getD_eq_getElem?_getD (l := (rowsT T).map _), List.getElem?_map, fn, List.getD_eq_getElem?_getD (l := rowsT T)]
  cases (rowsT T)[b]? with
  | none => rfl
  | some r => exact take_get hj
theorem uM_ent {w : Nat} {T : Tops} {b j : Nat} : ent (uM w T) b j = fn ((rowsT T).getD b []) (w + j) := by
  unfold ent uM
  rw [List.getD_eq_getElem?_getD (l := (rowsT T).map _), List.getElem?_map, fn, List.getD_eq_getElem?_getD (l := rowsT T)]
  cases (rowsT T)[b]? with
  | none => rfl
  | some r => exact drop_get
theorem hM_row {w h : Nat} {T : Tops} (E : Ech (w + h) T) : ∀ r ∈ hM w T, r.length = w := fun r hr => by
  obtain ⟨q, hq, rfl⟩ := List.mem_map.mp hr
  obtain ⟨p, hp, rfl⟩ := List.mem_map.mp hq
  rw [List.length_take, (E.pv p hp).len]
  omega
theorem uM_row {w h : Nat} {T : Tops} (E : Ech (w + h) T) : ∀ r ∈ uM w T, r.length = h := fun r hr => by
  obtain ⟨q, hq, rfl⟩ := List.mem_map.mp hr
  obtain ⟨p, hp, rfl⟩ := List.mem_map.mp hq
  rw [List.length_drop, (E.pv p hp).len]
  omega
theorem hM_len {w : Nat} {T : Tops} : (hM w T).length = T.length := by unfold hM rowsT; rw [List.length_map, List.length_map]
theorem uM_len {w : Nat} {T : Tops} : (uM w T).length = T.length := by unfold uM rowsT; rw [List.length_map, List.length_map]
/-- h = u a -/
theorem HForm.mul {A : List (List Int)} {h w : Nat} {T : Tops} (hA : A.length = h) (rA : ∀ r ∈ A, r.length = w) (F : HForm A h w T) : hM w T = mulM (uM w T) A w := by
  have key : ∀ f, Spn (noteM A h) f → ∀ j, j < w → f j = sumF h fun i => f (w + i) * ent A i j := fun f hf => by
    refine Spn.prop (fun f => ∀ j, j < w → f j = sumF h fun i => f (w + i) * ent A i j) (fun j _ => ?_) (fun x y a hx hy j hj => ?_) (fun r hr j hj => ?_) hf
    · rw [sumF_congr (g := fun _ => 0) fun i _ => Int.zero_mul _, sumF_zero]
    · show x j + a * y j = _
      rw [hx j hj, hy j hj, ← sumF_lin]
      exact sumF_congr fun i _ => by grind
    · obtain ⟨i, ei⟩ := List.getElem?_of_mem hr
      have hi : i < h := by
        have := (List.getElem?_eq_some_iff.mp ei).1
        rwa [note_len hA] at this
      rw [note_at hA hi] at ei
      have er := Option.some.inj ei
      have li := row_len hA rA hi
      show fn r j = sumF h fun k => fn r (w + k) * ent A k j
      rw [← er, app_l li hj, sumF_congr (g := fun k => (if i = k then 1 else 0) * ent A k j) fun k _ => by rw [app_r li, unit_get hi], sumF_delta hi]
      rfl
  apply List.ext_getElem
  · rw [hM_len, mulM_len, uM_len]
  · intro b h1 h2
    have hb : b < T.length := by rw [hM_len] at h1; exact h1
    refine list_ext (w := w) (hM_row F.E _ (List.getElem_mem h1)) (mulM_row _ (List.getElem_mem h2)) fun j => ?_
    have e1 : (hM w T)[b].getD j 0 = ent (hM w T) b j := by
      unfold ent
      rw [List.getD_eq_getElem?_getD (l := hM w T), List.getElem?_eq_getElem h1]
      rfl
    have e2 : (mulM (uM w T) A w)[b].getD j 0 = ent (mulM (uM w T) A w) b j := by
      unfold ent
      rw [List.getD_eq_getElem?_getD (l := mulM (uM w T) A w), List.getElem?_eq_getElem h2]
      rfl
    by_cases hj : j < w
    · rw [e1, e2, hM_ent hj, mul_ent (by rw [uM_len]; exact hb) hj (uM_row F.E) hA]
      have hbr : b < (rowsT T).length := by unfold rowsT; rw [List.length_map]; exact hb
      have hm : (rowsT T).getD b [] ∈ rowsT T := by
        rw [List.getD_eq_getElem?_getD, List.getElem?_eq_getElem hbr]
        exact List.getElem_mem hbr
      refine (key _ ((F.span _).mp (Spn.mem hm)) j hj).trans ?_
      exact sumF_congr fun i _ => by rw [uM_ent]
    · rw [getD_none (by rw [hM_row F.E _ (List.getElem_mem h1)]; omega), getD_none (by rw [mulM_row _ (List.getElem_mem h2)]; omega)]
/-- u is unimodular -/
theorem HForm.det {A : List (List Int)} {h w : Nat} {T : Tops} (h4 : h ≤ 4) (hA : A.length = h) (rA : ∀ r ∈ A, r.length = w) (F : HForm A h w T) : (detL h (uM w T)).natAbs = 1 := by
  have hy : ∀ i, ∃ c : Nat → Int, i < h → ∀ l, fn (A.getD i [] ++ unitU h i) l = sumF h fun b => c b * fn ((rowsT T).getD b []) l := fun i => by
    by_cases hi : i < h
    · obtain ⟨c, hc⟩ := spn_out ((F.span _).mpr (Spn.mem (List.mem_of_getElem? (note_at hA hi))))
      refine ⟨c, fun _ l => ?_⟩
      have h1 := hc l
      have e : (rowsT T).length = h := by unfold rowsT; rw [List.length_map, F.len]
      rw [e] at h1
      exact h1
    · exact ⟨fun _ => 0, fun h => absurd h hi⟩
  obtain ⟨c, hc⟩ := Classical.axiomOfChoice hy
  refine det_left (c := c) h4 ⟨by rw [uM_len, F.len], uM_row F.E⟩ fun i l hi hl => ?_
  have h1 := hc i hi (w + l)
  rw [app_r (row_len hA rA hi), unit_get hi] at h1
  rw [h1]
  exact sumF_congr fun b _ => by rw [uM_ent]
/-- cut at w, the noted rows are the rows -/
theorem note_cut {A : List (List Int)} {h w : Nat} (hA : A.length = h) (rA : ∀ r ∈ A, r.length = w) : (noteM A h).map (fun r => r.take w) = A := by
  apply List.ext_getElem?
  intro i
  rw [List.getElem?_map]
  by_cases hi : i < h
  · rw [note_at hA hi]
    have e1 : A[i]? = some (A.getD i []) := by rw [List.getD_eq_getElem?_getD, List.getElem?_eq_getElem (by omega)]; rfl
    rw [e1]
    show some ((A.getD i [] ++ unitU h i).take w) = _
    rw [List.take_append_of_le_length (by rw [row_len hA rA hi]; exact Nat.le_refl _), List.take_of_length_le (by rw [row_len hA rA hi]; exact Nat.le_refl _)]
  · rw [List.getElem?_eq_none (by rw [note_len hA]; omega), List.getElem?_eq_none (by omega)]
    rfl

end
end K44
namespace K44
open PySem PySem.Spec PyProof.Rows L2 Gm
open C8 (Cal Met Mak pe_c pe_mt pe_mt0 pe_mk)
section
variable {P : Program} {w : World} {K : PySem.W.Frag} {mg : Str → Option Value} {base : Heap}
theorem make_grid2 {K : PySem.W.Frag} {C x dx : Addr} {H1 : Hp} {v : V} {m : List (List Int)} {w : Nat} {Q : VK} {E : XK} (nx : H1 x = none) (nd : H1 dx = none) (hm : IRows K H1 v m) (hl : m.length ≤ 1000) (hw : w ≤ 1000) (hrw : ∀ r ∈ m, r.length = w) (q : ∀ H', Same H1 H' → IsGrid K C H' (.ref x) m w → Q .non H') :
    sp_Grid_init K C [.ref x, v, .int w] (upd (upd H1 dx (.own x)) x (.ins C dx [])) Q E := by
  have s0 : Same H1 (upd (upd H1 dx (.own x)) x (.ins C dx [])) := fun b o e => by
    rw [upd_ne (ne_of_none e nx), upd_ne (ne_of_none e nd)]
    exact e
  refine ⟨x, dx, v, m, w, rfl, upd_same, hm.same s0, hl, hw, hrw, fun t H' o ho ht => ?_⟩
  exact q _ (fun b u e => o _ _ (ne_of_none e nx) (s0 _ _ e)) ⟨⟨x, dx, t, rfl, ho, ht⟩, hrw⟩
theorem irows_t {K : PySem.W.Frag} {H : Hp} {v : V} {m : List (List Int)} (h : TRows K H v m) : IRows K H v m := let ⟨a, ws, e, ha, hp⟩ := h; ⟨a, ws, e, .inr ha, L2.Paired.mapP hp fun _ _ ⟨b, eb, hb⟩ => ⟨b, eb, .inr hb⟩⟩
theorem diag_unit (n : Nat) : diagM (List.replicate n 1) = unitM n := by
  unfold diagM unitM unitU
  rw [List.length_replicate]
  refine List.map_congr_left fun i hi => List.map_congr_left fun j hj => ?_
  have hi' := List.mem_range.mp hi
  have e : (List.replicate n (1 : Int)).getD i 0 = 1 := by
    rw [List.getD_eq_getElem?_getD, List.getElem?_replicate, if_pos hi']
    rfl
  rw [e]
def HB (B h : Nat) : Prop := (∀ k, k < h → (k + 1) * (hC B k * (1 + tri k)) ≤ 60000000) ∧ 2 * hC B h ≤ 134217728
theorem unitU_cost {B n i : Nat} (hB : 2 ≤ B) : Cost B (unitU n i) := fun x hx => by
  obtain ⟨j, _, rfl⟩ := List.mem_map.mp hx
  have h1 : 2 ^ 2 ≤ 2 ^ B := Nat.pow_le_pow_right (by decide) hB
  split <;> simp <;> omega
def sp_Grid_hermite (K : PySem.W.Frag) (C : Addr) : Sp := fun vs H Q _ => ∃ (v : V) (A : List (List Int)) (w B : Nat), vs = [v] ∧ IsGrid K C H v A w ∧ A.length ≤ 5 ∧ w ≤ 100 ∧ 2 ≤ B ∧ (∀ r ∈ A, Cost B r) ∧ HB B A.length ∧ ∀ T tp hv uv H', Same H H' → HForm A A.length w T → (∀ p ∈ T, Cost (hC B A.length) p.2) → SqT K H' tp [hv, uv] → IsGrid K C H' hv (hM w T) w → IsGrid K C H' uv (uM w T) A.length → Q (.ref tp) H'
theorem ok_Grid_hermite (T : Top K mg) (hN : base.NoSeer) (hT : P.given.tree = none) : FnOk P w K mg base CX0 46 T.a_Grid_hermite T.d_Grid_hermite ["self"] (sp_Grid_hermite K T.C_Grid) := by
  refine T.F_Grid_hermite.ok sc_Grid_hermite (fun vs H Q E h => ?_) (fun cdv A outer s H vs Q E hr h => ?_)
  · obtain ⟨v, A, w, B, rfl, _⟩ := h
    rfl
  · obtain ⟨v, m, w, B, rfl, G, hm, hw, hB2, hc, hB, q⟩ := h
    obtain ⟨⟨p, dx, t, rfl, ho, ht⟩, hrw⟩ := id G
    obtain ⟨qt, wt, rfl, hq, hpt⟩ := id ht
    have lwt := Paired.length hpt
    refine ⟨_, (pss_cons (ps_set (i := 1) sc_Grid_hermite.nd rfl (by first | exact .inl rfl | exact .inr rfl) (fldK K rfl (pe_c (cal_unit T hN hT) hr (by decide) (by rfl) (pa_cons (pe_callB (lenS K rfl) (by rfl) T.z_len (by decide +kernel) (pa_cons (fldK K rfl (pv 0) rfl) pa_nil)) pa_nil)) rfl))
      (pss_cons (ps_set (i := 2) sc_Grid_hermite.nd rfl (by first | exact .inl rfl | exact .inr rfl) (pe_c (cal_hermite_rows T hN hT) hr (by decide) (by rfl) (pa_cons (pe_lc (own := [("row", 5), ("one", 6)]) (g := (gTup K 2 (gCons (gName 5) (gCons (gName 6) gNil)))) (by rfl) sc_Grid_hermite.nd (RZ.pi_zipA (by rfl) T.z_zip (pa_cons (fldK K rfl (pv 0) rfl) (pa_cons (pv 1) pa_nil))) ((by show BlkOk ["self", "units", "noted", "h", "u", "row", "one"] (defScope s_Grid_hermite) _ _; exact blkOk_by (by decide +kernel))) (fun _ _ _ _ _ => (pg_tup rfl (pgs_cons (pg_name (i := 5) sc_Grid_hermite.nd rfl (by first | exact .inl rfl | exact .inr rfl)) (pgs_cons (pg_name (i := 6) sc_Grid_hermite.nd rfl (by first | exact .inl rfl | exact .inr rfl)) pgs_nil)))) (fun _ _ _ _ _ => pts_nil) (fun _ _ _ _ _ => (pe_op (catK K rfl) (pv 5) (pv 6)))) pa_nil)))
      (pss_cons (ps_setLc (i := 3) (own := [("row", 5)]) (g := (gName 5)) (by rfl) sc_Grid_hermite.nd rfl rfl (sw_true rfl rfl rfl (by decide +kernel)) (piS K rfl (pv 2)) ((by show BlkOk ["self", "units", "noted", "h", "u", "row", "one"] (defScope s_Grid_hermite) _ _; exact blkOk_by (by decide +kernel))) (fun _ _ _ _ _ => (pg_name (i := 5) sc_Grid_hermite.nd rfl (by first | exact .inl rfl | exact .inr rfl))) (fun _ _ _ _ _ => pts_nil) (fun _ _ _ _ _ => (pe_slice (slTK K rfl) (pv 5) po_none (po_some (fldK K rfl (pv 0) rfl)))))
      (pss_cons (ps_setLc (i := 4) (own := [("row", 5)]) (g := (gName 5)) (by rfl) sc_Grid_hermite.nd rfl rfl (sw_true rfl rfl rfl (by decide +kernel)) (piS K rfl (pv 2)) ((by show BlkOk ["self", "units", "noted", "h", "u", "row", "one"] (defScope s_Grid_hermite) _ _; exact blkOk_by (by decide +kernel))) (fun _ _ _ _ _ => (pg_name (i := 5) sc_Grid_hermite.nd rfl (by first | exact .inl rfl | exact .inr rfl))) (fun _ _ _ _ _ => pts_nil) (fun _ _ _ _ _ => (pe_slice (slTK K rfl) (pv 5) (po_some (fldK K rfl (pv 0) rfl)) po_none)))
      (pss_one (ps_ret (pe_tup (pa_cons (pe_mk (mak_Grid T hN hT) hr (by decide) (by rfl) (pa_cons (pv 3) (pa_cons (fldK K rfl (pv 0) rfl) pa_nil))) (pa_cons (pe_mk (mak_Grid T hN hT) hr (by decide) (by rfl) (pa_cons (pv 4) (pa_cons (pe_callB (lenS K rfl) (by rfl) T.z_len (by decide +kernel) (pa_cons (fldK K rfl (pv 0) rfl) pa_nil)) pa_nil))) pa_nil))))))))), ?_⟩
    refine ⟨_, rfl, p, T.C_Grid, dx, _, _, rfl, ho, T.cl_Grid, T.n_rows, flds_rows _ _, qt, _, rfl, .inr hq, wt.length, rfl, by omega, fun u H1 s1 Gu => ?_⟩
    rw [diag_unit, lwt] at Gu
    obtain ⟨⟨pu, du, tu, rfl, hou, htu⟩, _⟩ := id Gu
    obtain ⟨qu, wu, rfl, hqu, hpu⟩ := id htu
    have lwu := Paired.length hpu
    rw [unitM_len] at lwu
    refine ⟨pu, T.C_Grid, du, _, _, rfl, hou, T.cl_Grid, T.n_rows, flds_rows _ _, ?_⟩
    have ho1 := s1 _ _ ho
    have hq1 := Same.seqT s1 hq
    have hpt1 := L2.Paired.mapP hpt fun _ _ => TRow.same s1
    refine ⟨_, rfl, p, T.C_Grid, dx, _, _, rfl, ho1, T.cl_Grid, T.n_rows, flds_rows _ _, _, rfl, qt, qu, _, _, rfl, .inr ⟨hq1, hqu, fun D1 hD1 => ?_⟩⟩
    have W1 : Walk (RZ.ItzT K qt qu) m.length (fun H => SqT K H qt wt ∧ SqT K H qu wu) (YPair (fun i => wt[i]?) (fun i => wu[i]?)) := walk_zipT (by rw [lwt, lwu, Nat.min_self])
    refine lc_all W1 hD1 (by omega) (fun Ha sa => ⟨Same.seqT sa hq1, Same.seqT sa hqu⟩) (fun i v Ha => ∃ r, (noteM m m.length)[i]? = some r ∧ TRow K Ha v r) (fun l v H7 H8 acc e o ⟨r, er, h⟩ => ⟨r, er, TRow.off e o h⟩) ?_ gm_pair ?_
    · rintro i z Ha Ha' acc Ko hi sa eDa ⟨U2, x1, x2, rfl, nU, rfl, e1, e2⟩ kk
      obtain ⟨r1, er1, hr1⟩ := Paired.getR hpt1 e1
      obtain ⟨r2, er2, hr2⟩ := Paired.getR hpu e2
      have s2 := same_upd (o := .tup [x1, x2]) nU
      obtain ⟨b1, rfl, hb1⟩ := TRow.same (sa.trans s2) hr1
      obtain ⟨b2, rfl, hb2⟩ := TRow.same (sa.trans s2) hr2
      have l1 := hrw r1 (List.mem_of_getElem? er1)
      have l2 : r2.length = m.length := (unitM_sz m.length).row r2 (List.mem_of_getElem? er2)
      refine g_pair nU ⟨rfl, ?_⟩
      refine ⟨_, rfl, _, rfl, catA hb1 hb2 (by rw [List.length_map, List.length_map]; omega) fun p' H7 s7 h7 => ?_⟩
      refine kk _ _ (s2.trans s7) ⟨r1 ++ r2, ?_, p', rfl, by rw [List.map_append]; exact h7⟩
      unfold noteM
      rw [List.getElem?_zipWith, er1, er2]
    · intro Ha la sa eDa hpa
      have ln := note_len (A := m) rfl
      have hrn := note_row (A := m) (w := w) rfl hrw
      have hnc : ∀ r ∈ noteM m m.length, Cost B r := fun r hr => by
        obtain ⟨i, ei⟩ := List.getElem?_of_mem hr
        have hi : i < m.length := by
          have := (List.getElem?_eq_some_iff.mp ei).1
          rwa [ln] at this
        rw [note_at rfl hi] at ei
        have er := Option.some.inj ei
        intro x hx
        rw [← er] at hx
        rcases List.mem_append.mp hx with hx | hx
        · have e1 : m[i]? = some (m.getD i []) := by rw [List.getD_eq_getElem?_getD, List.getElem?_eq_getElem hi]; rfl
          exact hc _ (List.mem_of_getElem? e1) x hx
        · exact unitU_cost hB2 x hx
      refine ⟨.ref D1, noteM m m.length, w + m.length, B, rfl, ⟨D1, la, rfl, .inl (.inl (.inl eDa)), paired_at (by rw [ln]) hpa⟩, hrn, by omega, by omega, hnc, by rw [ln]; exact hB.1, by rw [ln]; exact hB.2, fun TT nv Hb sb R hnv => ?_⟩
      have F := hform (A := m) (w := w) rfl hrw R
      have hcost := R.cost
      rw [ln] at hcost
      have s1b := s1.trans (sa.trans sb)
      obtain ⟨nt, wn, rfl, hnt, hpn⟩ := id hnv
      have lwn := Paired.length hpn
      have lrT : (rowsT TT).length = m.length := by unfold rowsT; rw [List.length_map, F.len]
      have hob := s1b _ _ ho
      have rget : ∀ (i : Nat) r, (rowsT TT)[i]? = some r → (hM w TT)[i]? = some (r.take w) ∧ (uM w TT)[i]? = some (r.drop w) := fun i r e => by
        exact ⟨by unfold hM; rw [List.getElem?_map, e]; rfl, by unfold uM; rw [List.getElem?_map, e]; rfl⟩
      have lrow : ∀ r ∈ rowsT TT, r.length ≤ 1000 := fun r hr => by
        obtain ⟨p0, hp0, rfl⟩ := List.mem_map.mp hr
        rw [(F.E.pv p0 hp0).len]
        omega
      refine ⟨_, rfl, nt, wn, rfl, .inr hnt, fun J2 G2 W2 hG2 D2 hD2 => ?_⟩
      refine lc_all W2 hD2 (by omega) (fun Hc sc => hG2 Hc fun b _ o => sc b o) (fun i v Hc => ∃ r, (hM w TT)[i]? = some r ∧ TRow K Hc v r) (fun l v H7 H8 acc e o ⟨r, er, h⟩ => ⟨r, er, TRow.off e o h⟩) ?_ gm_name ?_
      · rintro i z Hc Hc' acc Ko hi sc eDc ⟨rfl, ez⟩ kk
        obtain ⟨r, er, hrr⟩ := Paired.getR hpn ez
        obtain ⟨c, rfl, hcr⟩ := TRow.same sc hrr
        refine ⟨rfl, ?_⟩
        refine ⟨_, rfl, _, rfl, p, T.C_Grid, dx, _, _, rfl, sc _ _ hob, T.cl_Grid, T.n_width, flds_width _ _, (w : Int), rfl, ?_⟩
        refine slA_take hcr w fun p' H7 s7 h7 => ?_
        exact kk _ _ s7 ⟨_, (rget i r er).1, p', rfl, by rw [List.map_take]; exact h7⟩
      intro Hc lc sc eDc hpc
      have hph := paired_at (F := TRow K Hc) (m := hM w TT) (by rw [hM_len, F.len]; omega) hpc
      have hnt2 := Same.seqT sc hnt
      have hpn2 := L2.Paired.mapP hpn fun _ _ => TRow.same sc
      have hoc := sc _ _ hob
      refine ⟨_, rfl, nt, wn, rfl, .inr hnt2, fun J3 G3 W3 hG3 D3 hD3 => ?_⟩
      refine lc_all W3 hD3 (by omega) (fun Hd sd => hG3 Hd fun b _ o => sd b o) (fun i v Hd => ∃ r, (uM w TT)[i]? = some r ∧ TRow K Hd v r) (fun l v H7 H8 acc e o ⟨r, er, h⟩ => ⟨r, er, TRow.off e o h⟩) ?_ gm_name ?_
      · rintro i z Hd Hd' acc Ko hi sd eDd ⟨rfl, ez⟩ kk
        obtain ⟨r, er, hrr⟩ := Paired.getR hpn2 ez
        obtain ⟨c, rfl, hcr⟩ := TRow.same sd hrr
        refine ⟨rfl, ?_⟩
        refine ⟨_, rfl, _, rfl, p, T.C_Grid, dx, _, _, rfl, sd _ _ hoc, T.cl_Grid, T.n_width, flds_width _ _, (w : Int), rfl, ?_⟩
        refine slA_drop hcr w fun p' H7 s7 h7 => ?_
        exact kk _ _ s7 ⟨_, (rget i r er).2, p', rfl, by rw [List.map_drop]; exact h7⟩
      intro Hd ld sd eDd hpd
      have hpu2 := paired_at (F := TRow K Hd) (m := uM w TT) (by rw [uM_len, F.len]; omega) hpd
      have hod := sd _ _ hoc
      have hIh : IRows K Hd (.ref D2) (hM w TT) := ⟨D2, lc, rfl, .inl (.inl (.inl (sd _ _ eDc))), L2.Paired.mapP hph fun _ _ h => let ⟨b, eb, hb⟩ := TRow.same sd h; ⟨b, eb, .inr hb⟩⟩
      have hIu : IRows K Hd (.ref D3) (uM w TT) := ⟨D3, ld, rfl, .inl (.inl (.inl eDd)), L2.Paired.mapP hpu2 fun _ _ h => let ⟨b, eb, hb⟩ := h; ⟨b, eb, .inr hb⟩⟩
      refine ⟨_, rfl, _, rfl, p, T.C_Grid, dx, _, _, rfl, hod, T.cl_Grid, T.n_width, flds_width _ _, ?_⟩
      intro x xd nx nd ne
      refine make_grid2 nx nd hIh (by rw [hM_len, F.len]; omega) (by omega) (hM_row F.E) fun He se Ge => ⟨rfl, ?_⟩
      have hoe := se _ _ hod
      have hqe := Same.seqT (s1b.trans (sc.trans (sd.trans se))) hq
      refine ⟨_, rfl, _, rfl, p, T.C_Grid, dx, _, _, rfl, hoe, T.cl_Grid, T.n_rows, flds_rows _ _, qt, _, rfl, .inr hqe, ?_⟩
      intro y yd ny nyd ney
      have hIu' : IRows K He (.ref D3) (uM w TT) := hIu.same se
      rw [lwt]
      refine make_grid2 (w := m.length) ny nyd hIu' (by rw [uM_len, F.len]; omega) (by omega) (uM_row F.E) fun Hf sf Gf => ⟨rfl, ?_⟩
      refine ⟨by show 2 ≤ sizeLine; decide, fun tp ntp => ?_⟩
      have sg := same_upd (o := .tup [V.ref x, V.ref y]) ntp
      exact q TT tp _ _ _ (s1b.trans (sc.trans (sd.trans (se.trans (sf.trans sg))))) F hcost (.inl (.inl upd_same)) (IsGrid.same (sf.trans sg) Ge) (IsGrid.same sg Gf)
theorem met_Grid_hermite (T : Top K mg) (hN : base.NoSeer) (hT : P.given.tree = none) : Met P w K mg base 46 T.C_Grid "hermite" (sp_Grid_hermite K T.C_Grid) [] := ⟨⟨_, _, _, [], T.cl_Grid, T.m_Grid_hermite, ok_Grid_hermite T hN hT, T.b_Grid_hermite, .nil⟩⟩
theorem m_hermite (t : V) (w : Nat) : (flds t w).lookup ("hermite" : Str) = none := flds_no t w (by decide +kernel) (by decide +kernel)

end
end K44
namespace K44
open PySem PySem.Spec PyProof.Rows L2 Gm
open C8 (Cal Met Mak pe_c pe_mt pe_mt0 pe_mk)
section
variable {P : Program} {w : World} {K : PySem.W.Frag} {mg : Str → Option Value} {base : Heap}
/-! ### the first item that is not 0 -/
def Piv (r : List Int) (k : Nat) : Prop := k < r.length ∧ r.getD k 0 ≠ 0 ∧ ∀ j, j < k → r.getD j 0 = 0
def sp_pivot_column (K : PySem.W.Frag) : Sp := fun vs H Q _ => ∃ (v : V) (r : List Int), vs = [v] ∧ TRow K H v r ∧ r.length ≤ 1000 ∧ (∀ k H', Same H H' → Piv r k → Q (.int (k : Nat)) H') ∧ (∀ H', Same H H' → (∀ j, r.getD j 0 = 0) → Q .non H')

end
end K44
namespace K44
open PySem PySem.Spec PyProof.Rows L2 Gm
open C8 (Cal Met Mak pe_c pe_mt pe_mt0 pe_mk)
section
variable {P : Program} {w : World} {K : PySem.W.Frag} {mg : Str → Option Value} {base : Heap}
/-! ### quotients by the pivots -/
def qT : Tops → List Int → List Int
  | [], _ => []
  | p :: T, x => (x.getD p.1 0 / p.2.getD p.1 0) :: qT T (red1 p x)
theorem qT_len : ∀ (T : Tops) (x : List Int), (qT T x).length = T.length
  | [], _ => rfl
  | p :: T, x => by show (qT T (red1 p x)).length + 1 = T.length + 1; rw [qT_len T]
theorem qT_sum {w : Nat} : ∀ {T : Tops} {x : List Int}, (∀ p ∈ T, p.2.length = w) → x.length = w → ∀ j, x.getD j 0 = (redT T x).getD j 0 + sumF T.length fun b => (qT T x).getD b 0 * ent (rowsT T) b j
  | [], x, _, _, j => by show x.getD j 0 = x.getD j 0 + 0; omega
  | p :: T, x, hT, hx, j => by
    have hp := hT p (List.mem_cons_self ..)
    have ih := qT_sum (T := T) (x := red1 p x) (fun q hq => hT q (List.mem_cons_of_mem _ hq)) (red1_len hp hx) j
    rw [red1_get hp hx] at ih
    rw [List.length_cons, sumF_shift, redT_cons]
    show x.getD j 0 = (redT T (red1 p x)).getD j 0 + (x.getD p.1 0 / p.2.getD p.1 0 * p.2.getD j 0 + sumF T.length fun b => (qT T (red1 p x)).getD b 0 * ent (rowsT T) b j)
    omega
theorem qT_take {T : Tops} {x : List Int} : ∀ {i : Nat} {p : Nat × List Int}, T[i]? = some p → qT (T.take (i + 1)) x = qT (T.take i) x ++ [(redT (T.take i) x).getD p.1 0 / p.2.getD p.1 0] := by
  induction T generalizing x with
  | nil => intro i p h; simp at h
  | cons q T ih =>
    intro i p h
    match i, h with
    | 0, h =>
      obtain rfl : q = p := by simpa using h
      rfl
    | i + 1, h =>
      have h' : T[i]? = some p := by simpa using h
      have := ih (x := red1 q x) h'
      show qT (q :: T.take (i + 1)) x = qT (q :: T.take i) x ++ _
      show (x.getD q.1 0 / q.2.getD q.1 0) :: qT (T.take (i + 1)) (red1 q x) = ((x.getD q.1 0 / q.2.getD q.1 0) :: qT (T.take i) (red1 q x)) ++ _
      rw [this]
      rfl
/-- what is left is in the span iff it is zero -/
theorem red_zero {w : Nat} {T : Tops} {x : List Int} (E : Ech w T) (hx : x.length = w) : Spn (rowsT T) (fn x) ↔ ∀ j, (redT T x).getD j 0 = 0 := by
  have hl : ∀ p ∈ T, p.2.length = w := fun p hp => (E.pv p hp).len
  have hs := redT_span hl hx
  constructor
  · intro h
    have hr : Spn (rowsT T) (fun j => (redT T x).getD j 0) := (h.add (hs.smul (-1))).cong fun j => by show x.getD j 0 + -1 * (x.getD j 0 - (redT T x).getD j 0) = _; omega
    apply Classical.byContradiction
    intro hn
    have hex : ∃ j, (redT T x).getD j 0 ≠ 0 := Classical.not_forall.mp hn
    have least : ∀ n, (∃ j, j < n ∧ (redT T x).getD j 0 ≠ 0) → ∃ c, (redT T x).getD c 0 ≠ 0 ∧ ∀ j, j < c → (redT T x).getD j 0 = 0 := fun n => by
      induction n with
      | zero => rintro ⟨j, hj, _⟩; exact absurd hj (Nat.not_lt_zero _)
      | succ n ih =>
        rintro ⟨j, hj, hn⟩
        by_cases hs : ∃ j, j < n ∧ (redT T x).getD j 0 ≠ 0
        · exact ih hs
        · refine ⟨j, hn, fun k hk => ?_⟩
          by_cases hk0 : (redT T x).getD k 0 = 0
          · exact hk0
          · exact absurd ⟨k, by omega, hk0⟩ hs
    obtain ⟨j, hj⟩ := hex
    obtain ⟨c, hc, hz⟩ := least (j + 1) ⟨j, Nat.lt_succ_self _, hj⟩
    obtain ⟨p, hp, ep, ⟨k, hk⟩⟩ := Ech.lead E hr hz hc
    have hb := redT_range E hx p hp
    rw [ep] at hb
    have hk0 : k = 0 := by
      rcases Int.lt_trichotomy k 0 with h1 | h1 | h1
      · have : p.2.getD c 0 * k ≤ p.2.getD c 0 * (-1) := Int.mul_le_mul_of_nonneg_left (by omega) (by omega)
        omega
      · exact h1
      · have : p.2.getD c 0 * 1 ≤ p.2.getD c 0 * k := Int.mul_le_mul_of_nonneg_left (by omega) (by omega)
        omega
    rw [hk0, Int.mul_zero] at hk
    exact hc hk
  · intro hz
    exact hs.cong fun j => by show x.getD j 0 - (redT T x).getD j 0 = x.getD j 0; rw [hz j]; omega
theorem mix_zero {x y : List Int} {w : Nat} (hx : x.length = w) (hy : y.length = w) : mixR 1 x 0 y = x := list_ext (mixR_len hx hy) hx fun j => by rw [mixR_get hx hy]; omega
theorem mix_red1 {p : Nat × List Int} {x : List Int} {w : Nat} (hp : p.2.length = w) (hx : x.length = w) : mixR 1 x (-(x.getD p.1 0 / p.2.getD p.1 0)) p.2 = red1 p x := by
  unfold red1
  split
  · rfl
  · rename_i h
    have h0 : x.getD p.1 0 / p.2.getD p.1 0 = 0 := by omega
    rw [h0]
    exact mix_zero hx hp
theorem piv_eq {w : Nat} {p : Nat × List Int} (h : Pv w p) {k : Nat} (hk : Piv p.2 k) : k = p.1 := by
  obtain ⟨_, h1, h2⟩ := hk
  rcases Nat.lt_trichotomy k p.1 with h3 | h3 | h3
  · exact absurd (h.zero k h3) h1
  · exact h3
  · have := h2 p.1 h3
    have := h.pos
    omega

end
end K44
namespace K44
open PySem PySem.Spec PyProof.Rows L2 Gm
open C8 (Cal Met Mak pe_c pe_mt pe_mt0 pe_mk)
section
variable {P : Program} {w : World} {K : PySem.W.Frag} {mg : Str → Option Value} {base : Heap}
def foundL (S : Tops) (x : List Int) (i : Nat) : List Int := qT (S.take i) x ++ List.replicate (i - S.length) 0
def sp_shares (K : PySem.W.Frag) : Sp := fun vs H Q _ => ∃ (xv fv : V) (x : List Int) (T : Tops) (w g ρ C : Nat), vs = [xv, fv] ∧ TRow K H xv x ∧ TRows K H fv (hM w T) ∧ Ech (w + g) T ∧ x.length = w ∧ w ≤ 100 ∧ T.length ≤ 5 ∧ Cost ρ x ∧ (∀ p ∈ T, Cost C p.2) ∧ 1 ≤ C ∧ ρ + 6 * C ≤ 134217728 ∧
  (∀ fl H', Same H H' → H' fl = some (.lst ((foundL (cutT w T) x T.length).map V.int)) → (∀ j, (redT (cutT w T) x).getD j 0 = 0) → Q (.ref fl) H') ∧ (∀ H', Same H H' → ¬ (∀ j, (redT (cutT w T) x).getD j 0 = 0) → Q .non H')
theorem cost_take {c w : Nat} {r : List Int} (h : Cost c r) : Cost c (r.take w) := fun x hx => h x (List.mem_of_mem_take hx)

end
end K44
namespace K44
open PySem PySem.Spec PyProof.Rows L2 Gm
open C8 (Cal Met Mak pe_c pe_mt pe_mt0 pe_mk)
section
variable {P : Program} {w : World} {K : PySem.W.Frag} {mg : Str → Option Value} {base : Heap}
theorem inv_left {n : Nat} {M : List (List Int)} (h4 : n ≤ 4) (hs : Sz n M) (hd : (detL n M).natAbs = 1) : ∃ Y : Nat → Nat → Int, ∀ i l, i < n → l < n → (sumF n fun a => Y i a * ent M a l) = if i = l then 1 else 0 := by
  refine ⟨fun i a => detL n M * ent (dueM n M) i a, fun i l hi hl => ?_⟩
  have hD : ∀ r ∈ dueM n M, r.length = n := fun r hr => by
    obtain ⟨a, _, rfl⟩ := List.mem_map.mp hr
    rw [List.length_map, List.length_range]
  have h1 := mul_ent (A := dueM n M) (B := M) (w := n) (l := i) (i := l) (by rw [due_len']; exact hi) hl hD hs.len
  rw [due_mul h4 hs, scal_ent hi hl] at h1
  rw [sumF_congr (g := fun a => detL n M * (ent (dueM n M) i a * ent M a l)) fun a _ => Int.mul_assoc .., sumF_mul, ← h1, ← Int.mul_assoc]
  rcases (show detL n M = 1 ∨ detL n M = -1 by omega) with e | e <;> rw [e] <;> split <;> rfl
theorem row_fn {A : List (List Int)} {w l j : Nat} (rA : ∀ r ∈ A, r.length = w) (hj : w ≤ j) : fn (A.getD l []) j = 0 := by
  show (A.getD l []).getD j 0 = 0
  by_cases h : l < A.length
  · have e : A.getD l [] = A[l] := by rw [List.getD_eq_getElem?_getD, List.getElem?_eq_getElem h]; rfl
    have hl := rA _ (List.getElem_mem h)
    rw [e]
    exact getD_none (by omega)
  · rw [List.getD_eq_getElem?_getD (l := A), List.getElem?_eq_none (by omega)]
    rfl
theorem getD_mem {A : List (List Int)} {l : Nat} (h : l < A.length) : A.getD l [] ∈ A := by
  rw [List.getD_eq_getElem?_getD, List.getElem?_eq_getElem h]
  exact List.getElem_mem h
theorem mem_getD {A : List (List Int)} {r : List Int} (h : r ∈ A) : ∃ l, l < A.length ∧ r = A.getD l [] := by
  obtain ⟨l, hl, e⟩ := List.getElem_of_mem h
  exact ⟨l, hl, by rw [List.getD_eq_getElem?_getD, List.getElem?_eq_getElem hl]; exact e.symm⟩
/-- a unimodular matrix in front keeps the span -/
theorem span_mul {n w : Nat} {U A : List (List Int)} (h4 : n ≤ 4) (hU : Sz n U) (hd : (detL n U).natAbs = 1) (lA : A.length = n) (rA : ∀ r ∈ A, r.length = w) (x : Nat → Int) : Spn (mulM U A w) x ↔ Spn A x := by
  have lm : (mulM U A w).length = n := by rw [mulM_len, hU.len]
  have em : ∀ l j, l < n → fn ((mulM U A w).getD l []) j = sumF n fun a => ent U l a * fn (A.getD a []) j := fun l j hl => by
    by_cases hj : j < w
    · have := mul_ent (A := U) (B := A) (w := w) (l := l) (i := j) (by rw [hU.len]; exact hl) hj hU.row lA
      exact this
    · rw [row_fn mulM_row (by omega), sumF_congr (g := fun _ => 0) fun a _ => by rw [row_fn rA (by omega), Int.mul_zero], sumF_zero]
  constructor
  · refine Spn.sub fun r hr => ?_
    obtain ⟨l, hl, rfl⟩ := mem_getD hr
    rw [lm] at hl
    exact (spn_comb (g := fun a => fn (A.getD a [])) (c := fun a => ent U l a) n fun a ha => Spn.mem (getD_mem (by omega))).cong fun j => (em l j hl).symm
  · refine Spn.sub fun r hr => ?_
    obtain ⟨i, hi, rfl⟩ := mem_getD hr
    rw [lA] at hi
    obtain ⟨Y, hY⟩ := inv_left h4 hU hd
    refine (spn_comb (R := mulM U A w) (g := fun l => fn ((mulM U A w).getD l [])) (c := fun l => Y i l) n fun l hl => Spn.mem (getD_mem (by omega))).cong fun j => ?_
    show (sumF n fun l => Y i l * fn ((mulM U A w).getD l []) j) = fn (A.getD i []) j
    have swap : ∀ (m : Nat), (sumF m fun l => Y i l * sumF n fun a => ent U l a * fn (A.getD a []) j) = sumF n fun a => (sumF m fun l => Y i l * ent U l a) * fn (A.getD a []) j := fun m => by
      induction m with
      | zero =>
        have e : (sumF n fun a => (sumF 0 fun l => Y i l * ent U l a) * fn (A.getD a []) j) = sumF n fun _ => 0 := sumF_congr fun a _ => (show (0 : Int) * fn (A.getD a []) j = 0 from Int.zero_mul _)
        rw [e, sumF_zero]
        rfl
      | succ m ih =>
        show (sumF m fun l => Y i l * sumF n fun a => ent U l a * fn (A.getD a []) j) + Y i m * (sumF n fun a => ent U m a * fn (A.getD a []) j) = _
        rw [ih, ← sumF_lin]
        refine sumF_congr fun a _ => ?_
        show _ = ((sumF m fun l => Y i l * ent U l a) + Y i m * ent U m a) * fn (A.getD a []) j
        grind
    rw [sumF_congr fun l hl => by rw [em l j hl], swap n, sumF_congr (g := fun a => (if i = a then 1 else 0) * fn (A.getD a []) j) fun a ha => by rw [hY i a hi ha], sumF_delta hi]

end
end K44
namespace K44
open PySem PySem.Spec PyProof.Rows L2 Gm
open C8 (Cal Met Mak pe_c pe_mt pe_mt0 pe_mk)
section
variable {P : Program} {w : World} {K : PySem.W.Frag} {mg : Str → Option Value} {base : Heap}
theorem span_cutA {A : List (List Int)} {h w : Nat} {T : Tops} (hA : A.length = h) (rA : ∀ r ∈ A, r.length = w) (F : HForm A h w T) (x : Nat → Int) : Spn (rowsT (cutT w T)) x ↔ Spn A x := by
  have := cut_span F.E F.span x
  rwa [note_cut hA rA] at this
theorem zero_rows {w k : Nat} : ∀ s ∈ List.replicate k (List.replicate w (0 : Int)), ∀ j, s.getD j 0 = 0 := fun s hs j => by
  rw [(List.mem_replicate.mp hs).2, List.getD_eq_getElem?_getD, List.getElem?_replicate]
  split <;> rfl
theorem span_hM {A : List (List Int)} {h w : Nat} {T : Tops} (hA : A.length = h) (rA : ∀ r ∈ A, r.length = w) (F : HForm A h w T) (x : Nat → Int) : Spn (hM w T) x ↔ Spn A x := by
  rw [(cut_rows F.E).1]
  exact (spn_app zero_rows).trans (span_cutA hA rA F x)
theorem form_same {A A' : List (List Int)} {h h' w : Nat} {T T' : Tops} (hA : A.length = h) (rA : ∀ r ∈ A, r.length = w) (F : HForm A h w T) (hA' : A'.length = h') (rA' : ∀ r ∈ A', r.length = w) (F' : HForm A' h' w T') (hs : ∀ x, Spn A x ↔ Spn A' x) : cutT w T = cutT w T' :=
  herm_uniq (cut_ech F.E) (cut_ech F'.E) (cut_tid F.tid) (cut_tid F'.tid) fun x => (span_cutA hA rA F x).trans ((hs x).trans (span_cutA hA' rA' F' x).symm)
/-- the same span, the same form -/
theorem hM_same {A A' : List (List Int)} {h w : Nat} {T T' : Tops} (hA : A.length = h) (rA : ∀ r ∈ A, r.length = w) (F : HForm A h w T) (hA' : A'.length = h) (rA' : ∀ r ∈ A', r.length = w) (F' : HForm A' h w T') (hs : ∀ x, Spn A x ↔ Spn A' x) : hM w T = hM w T' := by
  rw [(cut_rows F.E).1, (cut_rows F'.E).1, form_same hA rA F hA' rA' F' hs, F.len, F'.len]
/-- the rank -/
theorem rank_same {A : List (List Int)} {h w B : Nat} {T T0 : Tops} (hA : A.length = h) (rA : ∀ r ∈ A, r.length = w) (F : HForm A h w T) (R : HRes w B A A.length T0) : T0 = cutT w T := by
  have hs := R.span
  rw [List.take_length] at hs
  exact herm_uniq R.E (cut_ech F.E) R.tid (cut_tid F.tid) fun x => (hs x).trans (span_cutA hA rA F x).symm

end
end K44
namespace K44
open PySem PySem.Spec PyProof.Rows L2 Gm
open C8 (Cal Met Mak pe_c pe_mt pe_mt0 pe_mk)
section
variable {P : Program} {w : World} {K : PySem.W.Frag} {mg : Str → Option Value} {base : Heap}
theorem m_rank (t : V) (w : Nat) : (flds t w).lookup ("rank" : Str) = none := flds_no t w (by decide +kernel) (by decide +kernel)
def sp_Grid_rank (K : PySem.W.Frag) (C : Addr) : Sp := fun vs H Q _ => ∃ (v : V) (m : List (List Int)) (w B : Nat), vs = [v] ∧ IsGrid K C H v m w ∧ (∀ r ∈ m, Cost B r) ∧ HB B m.length ∧ m.length ≤ 5 ∧ w ≤ 1000 ∧ ∀ T H', Same H H' → HRes w B m m.length T → Q (.int (T.length : Nat)) H'

end
end K44
namespace K44
open PySem PySem.Spec PyProof.Rows L2 Gm
open C8 (Cal Met Mak pe_c pe_mt pe_mt0 pe_mk)
section
variable {P : Program} {w : World} {K : PySem.W.Frag} {mg : Str → Option Value} {base : Heap}
/-! ### before, of a list -/
def sp_dot_L (K : PySem.W.Frag) : Sp := fun vs H Q _ => ∃ (v1 : V) (l : Addr) (xs ys : List Int) (B1 B2 : Nat), vs = [v1, .ref l] ∧ TRow K H v1 xs ∧ SqL K H l (ys.map V.int) ∧ xs.length = ys.length ∧ xs.length ≤ 1000 ∧ Bits B1 xs ∧ Bits B2 ys ∧ B1 + B2 ≤ 134217728 ∧ ∀ H', Same H H' → Q (.int (dotI xs ys)) H'
def sp_Grid_times_L (K : PySem.W.Frag) (C : Addr) : Sp := fun vs H Q _ => ∃ (v : V) (m : List (List Int)) (w : Nat) (b : Addr) (r : List Int) (B1 B2 : Nat), vs = [v, .ref b] ∧ IsGrid K C H v m w ∧ SqL K H b (r.map V.int) ∧ r.length = w ∧ m.length ≤ 1000 ∧ w ≤ 1000 ∧ (∀ o ∈ m, Bits B1 o) ∧ Bits B2 r ∧ B1 + B2 ≤ 134217728 ∧ ∀ v' H', Same H H' → TRow K H' v' (timesM m r) → Q v' H'
def sp_Grid_before_L (K : PySem.W.Frag) (C : Addr) : Sp := fun vs H Q _ => ∃ (v : V) (m : List (List Int)) (w : Nat) (b : Addr) (r : List Int) (B1 B2 : Nat), vs = [v, .ref b] ∧ IsGrid K C H v m w ∧ SqL K H b (r.map V.int) ∧ r.length = m.length ∧ m.length ≤ 1000 ∧ w ≤ 1000 ∧ (∀ o ∈ m, Bits B1 o) ∧ Bits B2 r ∧ B1 + B2 ≤ 134217728 ∧ ∀ v' H', Same H H' → TRow K H' v' (timesM (transp m w) r) → Q v' H'

end
end K44
namespace K44
open PySem PySem.Spec PyProof.Rows L2 Gm
open C8 (Cal Met Mak pe_c pe_mt pe_mt0 pe_mk)
section
variable {P : Program} {w : World} {K : PySem.W.Frag} {mg : Str → Option Value} {base : Heap}
/-! ### coefficients -/
theorem sumF_trunc {f : Nat → Int} {k : Nat} : ∀ {n : Nat}, k ≤ n → (∀ b, k ≤ b → f b = 0) → sumF n f = sumF k f
  | 0, h, _ => by rw [show k = 0 by omega]
  | n + 1, h, hz => by
    by_cases e : k = n + 1
    · rw [e]
    · show sumF n f + f n = _
      rw [sumF_trunc (n := n) (by omega) hz, hz n (by omega), Int.add_zero]
theorem sumF_swap {n : Nat} (y : Nat → Int) (u : Nat → Nat → Int) (v : Nat → Int) : ∀ m, (sumF m fun l => y l * sumF n fun a => u l a * v a) = sumF n fun a => (sumF m fun l => y l * u l a) * v a
  | 0 => by
    have e : (sumF n fun a => (sumF 0 fun l => y l * u l a) * v a) = sumF n fun _ => 0 := sumF_congr fun a _ => (show (0 : Int) * v a = 0 from Int.zero_mul _)
    rw [e, sumF_zero]
    rfl
  | m + 1 => by
    show (sumF m fun l => y l * sumF n fun a => u l a * v a) + y m * (sumF n fun a => u m a * v a) = _
    rw [sumF_swap y u v m, ← sumF_lin]
    refine sumF_congr fun a _ => ?_
    show _ = ((sumF m fun l => y l * u l a) + y m * u m a) * v a
    grind
theorem times_len {M : List (List Int)} {w : Nat} {r : List Int} : (timesM (transp M w) r).length = w := by
  unfold timesM
  rw [List.length_map, transp_len]
theorem times_tr {M : List (List Int)} {n w j : Nat} {r : List Int} (hM : M.length = n) (hr : r.length = n) (hj : j < w) : (timesM (transp M w) r).getD j 0 = sumF n fun i => r.getD i 0 * ent M i j := by
  have hj' : j < (transp M w).length := by rw [transp_len]; exact hj
  have e : (transp M w)[j]? = some ((transp M w).getD j []) := by rw [List.getD_eq_getElem?_getD, List.getElem?_eq_getElem hj']; rfl
  unfold timesM
  rw [List.getD_eq_getElem?_getD (l := (transp M w).map _), List.getElem?_map, e]
  show dotI ((transp M w).getD j []) r = _
  rw [dot_sum (n := n) (by rw [transp_row _ (tr_row hj), hM]) hr]
  refine sumF_congr fun i _ => ?_
  rw [tr_fn hj]
  exact Int.mul_comm _ _
theorem found_len {S : Tops} {x : List Int} {h : Nat} (hS : S.length ≤ h) : (foundL S x h).length = h := by
  unfold foundL
  rw [List.length_append, qT_len, List.length_replicate, List.take_of_length_le hS]
  omega
theorem getD_app_l {a b : List Int} {i : Nat} (h : i < a.length) : (a ++ b).getD i 0 = a.getD i 0 := by
  rw [List.getD_eq_getElem?_getD, List.getElem?_append_left h, List.getD_eq_getElem?_getD]
theorem getD_app_r {a b : List Int} {i : Nat} (h : a.length ≤ i) : (a ++ b).getD i 0 = b.getD (i - a.length) 0 := by
  rw [List.getD_eq_getElem?_getD, List.getElem?_append_right h, List.getD_eq_getElem?_getD]
theorem rep_zero {n j : Nat} : (List.replicate n (0 : Int)).getD j 0 = 0 := by
  rw [List.getD_eq_getElem?_getD, List.getElem?_replicate]
  split <;> rfl
/-- what was found, times the rows of the form, is the row -/
theorem found_sum {w g h : Nat} {T : Tops} {x : List Int} (E : Ech (w + g) T) (hT : T.length = h) (hx : x.length = w) (hz : ∀ j, (redT (cutT w T) x).getD j 0 = 0) {j : Nat} (hj : j < w) : (sumF h fun b => (foundL (cutT w T) x h).getD b 0 * ent (hM w T) b j) = x.getD j 0 := by
  obtain ⟨er, lr⟩ := cut_rows (w := w) E
  have ec := cut_ech E
  obtain ⟨S, hS⟩ : ∃ S, cutT w T = S := ⟨_, rfl⟩
  rw [hS] at er lr ec hz ⊢
  have tk : S.take h = S := List.take_of_length_le (by omega)
  have hf : foundL S x h = qT S x ++ List.replicate (h - S.length) 0 := by unfold foundL; rw [tk]
  rw [sumF_trunc (k := S.length) (by omega) fun b hb => by rw [hf, getD_app_r (by rw [qT_len]; exact hb), rep_zero, Int.zero_mul]]
  have hq := qT_sum (T := S) (x := x) (w := w) (fun p hp => (ec.pv p hp).len) hx j
  rw [hz j, Int.zero_add] at hq
  rw [hq]
  refine sumF_congr fun b hb => ?_
  rw [hf, getD_app_l (by rw [qT_len]; exact hb)]
  congr 1
  unfold ent
  rw [er, List.getD_eq_getElem?_getD (l := rowsT S ++ _), List.getElem?_append_left (by unfold rowsT; rw [List.length_map]; exact hb), List.getD_eq_getElem?_getD (l := rowsT S)]
/-- coefficients of the rows -/
theorem coef_ok {A : List (List Int)} {h w : Nat} {T : Tops} {x : List Int} (hA : A.length = h) (rA : ∀ r ∈ A, r.length = w) (F : HForm A h w T) (hx : x.length = w) (hz : ∀ j, (redT (cutT w T) x).getD j 0 = 0) :
    timesM (transp A w) (timesM (transp (uM w T) h) (foundL (cutT w T) x h)) = x := by
  obtain ⟨er, lr⟩ := cut_rows (w := w) F.E
  have lf : (foundL (cutT w T) x h).length = h := found_len (by rw [← F.len]; exact lr)
  have lu : (uM w T).length = h := by rw [uM_len, F.len]
  refine list_ext (w := w) times_len hx fun j => ?_
  by_cases hj : j < w
  · rw [times_tr hA times_len hj, sumF_congr (g := fun i => (sumF h fun b => (foundL (cutT w T) x h).getD b 0 * ent (uM w T) b i) * ent A i j) fun i hi => by rw [times_tr lu lf hi], ← sumF_swap, ← found_sum F.E F.len hx hz hj]
    refine sumF_congr fun b hb => ?_
    rw [F.mul hA rA, mul_ent (by rw [lu]; exact hb) hj (uM_row F.E) hA]
  · rw [getD_none (by rw [times_len]; omega), getD_none (by omega)]
theorem qT_bits {w C : Nat} : ∀ {T : Tops} {x : List Int} {ρ : Nat}, Ech w T → (∀ p ∈ T, Cost C p.2) → Cost ρ x → Bits (ρ + T.length * C) (qT T x)
  | [], x, ρ, _, _, _ => fun z hz => (by cases hz)
  | p :: T, x, ρ, E, hC, hx => fun z hz => by
    have e1 : ρ + (p :: T).length * C = ρ + C + T.length * C := by rw [List.length_cons, Nat.add_mul, Nat.one_mul]; omega
    have hp := E.pv p (List.mem_cons_self ..)
    have ih := qT_bits (T := T) (x := red1 p x) (ρ := C + ρ) E.tail (fun q hq => hC q (List.mem_cons_of_mem _ hq)) (red1_cost (hC p (List.mem_cons_self ..)) hx hp.pos)
    rcases List.mem_cons.mp (show z ∈ (x.getD p.1 0 / p.2.getD p.1 0) :: qT T (red1 p x) from hz) with rfl | h
    · refine Nat.lt_of_le_of_lt (Int.natAbs_ediv_le_natAbs _ _) (Nat.lt_of_lt_of_le (cost_at hx _) (Nat.pow_le_pow_right (by decide) ?_))
      omega
    · rw [e1, Nat.add_comm ρ C]
      exact ih z h
theorem found_bits {w C ρ h : Nat} {S : Tops} {x : List Int} (E : Ech w S) (hC : ∀ p ∈ S, Cost C p.2) (hx : Cost ρ x) (hS : S.length ≤ h) (h5 : S.length ≤ 5) : Bits (ρ + 5 * C) (foundL S x h) := fun z hz => by
  unfold foundL at hz
  rw [List.take_of_length_le hS] at hz
  rcases List.mem_append.mp hz with h | h
  · refine Nat.lt_of_lt_of_le (qT_bits E hC hx z h) (Nat.pow_le_pow_right (by decide) ?_)
    have := Nat.mul_le_mul_right C h5
    omega
  · rw [(List.mem_replicate.mp h).2]
    exact Nat.two_pow_pos _
theorem bits_up {B B' : Nat} {x : List Int} (h : Bits B x) (hB : B ≤ B') : Bits B' x := fun z hz => Nat.lt_of_lt_of_le (h z hz) (Nat.pow_le_pow_right (by decide) hB)
theorem dot_bits5 {B1 B2 : Nat} {xs ys : List Int} (h1 : Bits B1 xs) (h2 : Bits B2 ys) : ∀ n, xs.length ≤ n → n ≤ 7 → (dotI xs ys).natAbs < 2 ^ (B1 + B2 + 3) := by
  have key : ∀ (xs ys : List Int), Bits B1 xs → Bits B2 ys → (dotI xs ys).natAbs ≤ xs.length * (2 ^ B1 * 2 ^ B2) := fun xs => by
    induction xs with
    | nil => intro ys _ _; exact Nat.zero_le _
    | cons a xs ih =>
      intro ys h1 h2
      cases ys with
      | nil => exact Nat.zero_le _
      | cons b ys =>
        have e : dotI (a :: xs) (b :: ys) = a * b + dotI xs ys := rfl
        have i1 := ih ys (fun z hz => h1 z (List.mem_cons_of_mem _ hz)) (fun z hz => h2 z (List.mem_cons_of_mem _ hz))
        have i2 : (a * b).natAbs ≤ 2 ^ B1 * 2 ^ B2 := by
          rw [Int.natAbs_mul]
          exact Nat.mul_le_mul (Nat.le_of_lt (h1 a (List.mem_cons_self ..))) (Nat.le_of_lt (h2 b (List.mem_cons_self ..)))
        rw [e, List.length_cons, Nat.add_mul, Nat.one_mul]
        have := Int.natAbs_add_le (a * b) (dotI xs ys)
        omega
  intro n hn h7
  have h3 := key xs ys h1 h2
  have h4 : xs.length * (2 ^ B1 * 2 ^ B2) ≤ 7 * (2 ^ B1 * 2 ^ B2) := Nat.mul_le_mul_right _ (by omega)
  have h5 : 2 ^ (B1 + B2 + 3) = 8 * (2 ^ B1 * 2 ^ B2) := by rw [Nat.pow_add, Nat.pow_add, Nat.mul_comm]
  have h6 : 0 < 2 ^ B1 * 2 ^ B2 := Nat.mul_pos (Nat.two_pow_pos _) (Nat.two_pow_pos _)
  omega
theorem times_bits {M : List (List Int)} {w B1 B2 : Nat} {r : List Int} (hM : M.length ≤ 7) (hw : ∀ o ∈ M, o.length = w) (b1 : ∀ o ∈ M, Bits B1 o) (b2 : Bits B2 r) : Bits (B1 + B2 + 3) (timesM (transp M w) r) := fun z hz => by
  obtain ⟨o, ho, rfl⟩ := List.mem_map.mp hz
  exact dot_bits5 (transp_bits hw b1 o ho) b2 7 (by rw [transp_row o ho]; exact hM) (Nat.le_refl _)
theorem uM_cost {w C : Nat} {T : Tops} (h : ∀ p ∈ T, Cost C p.2) : ∀ r ∈ uM w T, Bits C r := fun r hr => by
  obtain ⟨q, hq, rfl⟩ := List.mem_map.mp hr
  obtain ⟨p, hp, rfl⟩ := List.mem_map.mp hq
  exact fun z hz => cost_bits (h p hp) z (List.mem_of_mem_drop hz)
theorem hM_cost {w C : Nat} {T : Tops} (h : ∀ p ∈ T, Cost C p.2) : ∀ r ∈ hM w T, Cost C r := fun r hr => by
  obtain ⟨q, hq, rfl⟩ := List.mem_map.mp hr
  obtain ⟨p, hp, rfl⟩ := List.mem_map.mp hq
  exact cost_take (h p hp)
theorem m_hermite' (t : V) (w : Nat) : (flds t w).lookup ("hermite" : Str) = none := m_hermite t w
theorem m_coefficients (t : V) (w : Nat) : (flds t w).lookup ("coefficients" : Str) = none := flds_no t w (by decide +kernel) (by decide +kernel)
def sp_Grid_coefficients (K : PySem.W.Frag) (C : Addr) : Sp := fun vs H Q _ => ∃ (v u : V) (A : List (List Int)) (w B ρ : Nat) (x : List Int), vs = [v, u] ∧ IsGrid K C H v A w ∧ TRow K H u x ∧ x.length = w ∧ A.length ≤ 5 ∧ w ≤ 100 ∧ 2 ≤ B ∧ (∀ r ∈ A, Cost B r) ∧ HB B A.length ∧ Cost ρ x ∧ 1 ≤ hC B A.length ∧ ρ + 6 * hC B A.length ≤ 134217728 ∧
  (∀ fv r H', Same H H' → TRow K H' fv r → r.length = A.length → Bits (ρ + 6 * hC B A.length + 3) r → timesM (transp A w) r = x → Spn A (fn x) → Q fv H') ∧ (∀ H', Same H H' → ¬ Spn A (fn x) → Q .non H')

end
end K44
namespace K44
open PySem PySem.Spec PyProof.Rows L2 Gm
open C8 (Cal Met Mak pe_c pe_mt pe_mt0 pe_mk)
section
variable {P : Program} {w : World} {K : PySem.W.Frag} {mg : Str → Option Value} {base : Heap}
/-! ### the law's look at a form -/
def muHm : L2.St → Hp → Nat
  | [_, some (.int w), _, _, _, some (.int a), _], _ => (w - a).toNat
  | _, _ => 0
theorem tid_at : ∀ {S : Tops}, Tid S → ∀ {i k : Nat} {p q : Nat × List Int}, k < i → S[k]? = some p → S[i]? = some q → 0 ≤ p.2.getD q.1 0 ∧ p.2.getD q.1 0 < q.2.getD q.1 0
  | [], _, i, k, p, q, _, h, _ => by simp at h
  | s :: S, t, i, k, p, q, hk, hp, hq => by
    match i, hk, hq with
    | i + 1, hk, hq =>
      have hq' : S[i]? = some q := by simpa using hq
      match k, hk, hp with
      | 0, _, hp =>
        obtain rfl : s = p := by simpa using hp
        exact t.1 q (List.mem_of_getElem? hq')
      | k + 1, hk, hp => exact tid_at t.2 (by omega) (show S[k]? = some p by simpa using hp) hq'
theorem asc_at : ∀ {S : Tops} {w : Nat}, Ech w S → ∀ {i k : Nat} {p q : Nat × List Int}, k < i → S[k]? = some p → S[i]? = some q → p.1 < q.1
  | [], _, _, i, k, p, q, _, h, _ => by simp at h
  | s :: S, w, E, i, k, p, q, hk, hp, hq => by
    match i, hk, hq with
    | i + 1, hk, hq =>
      have hq' : S[i]? = some q := by simpa using hq
      match k, hk, hp with
      | 0, _, hp =>
        obtain rfl : s = p := by simpa using hp
        exact E.head.2 q (List.mem_of_getElem? hq')
      | k + 1, hk, hp => exact asc_at E.tail (by omega) (show S[k]? = some p by simpa using hp) hq'
theorem hM_top {w g : Nat} {T : Tops} (E : Ech (w + g) T) {i : Nat} {p : Nat × List Int} (h : (cutT w T)[i]? = some p) : (hM w T)[i]? = some p.2 := by
  rw [(cut_rows E).1, List.getElem?_append_left (by unfold rowsT; rw [List.length_map]; exact (List.getElem?_eq_some_iff.mp h).1)]
  unfold rowsT
  rw [List.getElem?_map, h]
  rfl
theorem hM_low {w g : Nat} {T : Tops} (E : Ech (w + g) T) {i : Nat} {r : List Int} (hi : (cutT w T).length ≤ i) (h : (hM w T)[i]? = some r) : r = List.replicate w 0 := by
  rw [(cut_rows E).1, List.getElem?_append_right (by unfold rowsT; rw [List.length_map]; exact hi), List.getElem?_replicate] at h
  split at h
  · exact (Option.some.inj h).symm
  · cases h
def sp_law_is_hermite (K : PySem.W.Frag) : Sp := fun vs H Q _ => ∃ (v : V) (w g : Nat) (T : Tops), vs = [v, .int w] ∧ TRows K H v (hM w T) ∧ Ech (w + g) T ∧ Tid T ∧ w ≤ 100 ∧ T.length ≤ 5 ∧ ∀ H', Same H H' → Q (.bl true) H'

end
end K44
namespace K44
open PySem PySem.Spec PyProof.Rows L2 Gm
open C8 (Cal Met Mak pe_c pe_mt pe_mt0 pe_mk)
section
variable {P : Program} {w : World} {K : PySem.W.Frag} {mg : Str → Option Value} {base : Heap}
/-! ### divisors, pivots, forms, tables, as lists -/
def divsN (n : Nat) : List Nat := ((List.range 60).map (· + 1)).filter (fun d => n % d == 0 && decide (d ≤ n))
def ptN : Nat → Nat → List (List Nat × Nat)
  | 0, i => [([], i)]
  | k + 1, i => (ptN k i).flatMap fun p => (divsN p.2).map fun d => (p.1 ++ [d], p.2 / d)
def pivN (n i : Nat) : List (List Nat) := (ptN (n - 1) i).map fun p => p.1 ++ [p.2]
/-- each row with each number below p behind it -/
def longR (rows : List (List Int)) (p : Nat) : List (List Int) := rows.flatMap fun r => (List.range p).map fun (x : Nat) => r ++ [(x : Int)]
def headR (k p : Nat) : List Int := List.replicate k 0 ++ [(p : Int)]
def rowsF (piv : List Nat) (k : Nat) : List (List Int) := (piv.drop (k + 1)).foldl longR [headR k (piv.getD k 0)]
def formsN (piv : List Nat) : List (List (List Int)) := (List.range piv.length).foldl (fun f k => f.flatMap fun one => (rowsF piv k).map fun r => one ++ [r]) [[]]
def foundN (n i : Nat) : List (List (List Int)) := (pivN n i).flatMap formsN
/-- the pivots of a table's rows, the first of them row a of the matrix -/
def tabP (a : Nat) (t : List (List Int)) : List Nat := (List.range t.length).map fun j => ((t.getD j []).getD (a + j) 0).toNat
def lawT : Nat → Nat → Nat → List (List (List Int))
  | 0, i, _ => if i = 1 then [[]] else []
  | m + 1, i, a => ((List.range i).map (· + 1)).flatMap fun h => if i % h = 0 then (lawT m (i / h) (a + 1)).flatMap fun t => ((tabP (a + 1) t).foldl longR [headR a h]).map fun r => r :: t else []
def permOk (n i : Nat) : Bool := (foundN n i).isPerm (lawT n i 0)
theorem perm1 : ∀ i < 61, 0 < i → permOk 1 i = true := by decide +kernel
theorem perm2 : ∀ i < 61, 0 < i → permOk 2 i = true := by decide +kernel
theorem perm3 : ∀ i < 13, 0 < i → permOk 3 i = true := by decide +kernel
theorem perm4 : ∀ i < 5, 0 < i → permOk 4 i = true := by decide +kernel
/-- the sizes that the law asks -/
def SizeOk (n i : Nat) : Prop := 1 ≤ i ∧ ((n = 1 ∧ i ≤ 60) ∨ (n = 2 ∧ i ≤ 60) ∨ (n = 3 ∧ i ≤ 12) ∨ (n = 4 ∧ i ≤ 4))
theorem perm_all {n i : Nat} (h : SizeOk n i) : (foundN n i).Perm (lawT n i 0) := by
  obtain ⟨h1, ⟨rfl, h2⟩ | ⟨rfl, h2⟩ | ⟨rfl, h2⟩ | ⟨rfl, h2⟩⟩ := h
  · exact List.isPerm_iff.mp (perm1 i (by omega) h1)
  · exact List.isPerm_iff.mp (perm2 i (by omega) h1)
  · exact List.isPerm_iff.mp (perm3 i (by omega) h1)
  · exact List.isPerm_iff.mp (perm4 i (by omega) h1)
/-! ### what is in lawT -/
theorem fold_long : ∀ {ps xs : List Nat} {rows : List (List Int)} {r0 : List Int}, r0 ∈ rows → Paired (fun x p : Nat => x < p) xs ps → (r0 ++ xs.map (fun (x : Nat) => (x : Int))) ∈ ps.foldl longR rows
  | [], _, rows, r0, h0, h => by
    cases h
    simpa using h0
  | p :: ps, _, rows, r0, h0, h => by
    cases h with
    | @cons x _ xs _ hx ht =>
      rw [List.foldl_cons]
      have := fold_long (rows := longR rows p) (r0 := r0 ++ [(x : Int)]) (List.mem_flatMap.mpr ⟨r0, h0, List.mem_map.mpr ⟨x, List.mem_range.mpr hx, rfl⟩⟩) ht
      simpa using this
inductive UT : Nat → Nat → List (List Int) → Prop
  | nil {a : Nat} : UT a 1 []
  | cons {a i h : Nat} {t : List (List Int)} {xs : List Nat} : 1 ≤ h → UT (a + 1) i t → Paired (fun x p : Nat => x < p) xs (tabP (a + 1) t) → UT a (h * i) ((headR a h ++ xs.map (fun (x : Nat) => (x : Int))) :: t)
theorem UT.pos {a i : Nat} {T : List (List Int)} (h : UT a i T) : 1 ≤ i := by
  induction h with
  | nil => exact Nat.le_refl _
  | cons h1 _ _ ih => exact Nat.mul_pos h1 ih
theorem UT.mem {a i : Nat} {T : List (List Int)} (h : UT a i T) : T ∈ lawT T.length i a := by
  induction h with
  | nil => simp [lawT]
  | @cons a i h t xs h1 ht hp ih =>
    rw [List.length_cons, lawT]
    have hi := ht.pos
    refine List.mem_flatMap.mpr ⟨h, List.mem_map.mpr ⟨h - 1, List.mem_range.mpr ?_, by omega⟩, ?_⟩
    · have : h * 1 ≤ h * i := Nat.mul_le_mul_left h hi
      omega
    · rw [if_pos (Nat.mul_mod_right h i), Nat.mul_div_cancel_left i h1]
      exact List.mem_flatMap.mpr ⟨t, ih, List.mem_map.mpr ⟨_, fold_long (List.mem_singleton.mpr rfl) hp, rfl⟩⟩

end
end K44
namespace K44
open PySem PySem.Spec PyProof.Rows L2 Gm
open C8 (Cal Met Mak pe_c pe_mt pe_mt0 pe_mk)
section
variable {P : Program} {w : World} {K : PySem.W.Frag} {mg : Str → Option Value} {base : Heap}
/-! ### a Hermite form of full rank is in lawT -/
/-- the product of the corners, from row a on -/
def diagP : Nat → List (List Int) → Int
  | _, [] => 1
  | a, r :: t => r.getD a 0 * diagP (a + 1) t
/-- the determinant of rows with zeros below the corners -/
theorem det_up {n : Nat} {m : List (List Int)} (h4 : n ≤ 4) (hs : Sz n m) (hz : ∀ i j, j < i → ent m i j = 0) : detL n m = diagP 0 m := by
  match n, h4, hs with
  | 0, _, hs =>
    cases sz0 hs
    rfl
  | 1, _, hs =>
    obtain ⟨a, rfl⟩ := sz1 hs
    rw [detL1]
    show a = a * 1
    omega
  | 2, _, hs =>
    obtain ⟨a, b, c, d, rfl⟩ := sz2 hs
    have h1 : c = 0 := hz 1 0 (by omega)
    subst h1
    rw [detL2]
    show D2 a b 0 d = a * (d * 1)
    unfold D2
    grind
  | 3, _, hs =>
    obtain ⟨a, b, c, d, e, f, g, k, l, rfl⟩ := sz3 hs
    have h1 : d = 0 := hz 1 0 (by omega)
    have h2 : g = 0 := hz 2 0 (by omega)
    have h3 : k = 0 := hz 2 1 (by omega)
    subst h1 h2 h3
    rw [detL3]
    show D3 a b c 0 e f 0 0 l = a * (e * (l * 1))
    unfold D3 D2
    grind
  | 4, _, hs =>
    obtain ⟨a, b, c, d, e, f, g, k, l, o, p, q, r, s, t, u, rfl⟩ := sz4 hs
    have h1 : e = 0 := hz 1 0 (by omega)
    have h2 : l = 0 := hz 2 0 (by omega)
    have h3 : o = 0 := hz 2 1 (by omega)
    have h4 : r = 0 := hz 3 0 (by omega)
    have h5 : s = 0 := hz 3 1 (by omega)
    have h6 : t = 0 := hz 3 2 (by omega)
    subst h1 h2 h3 h4 h5 h6
    rw [detL4]
    show D4 a b c d 0 f g k 0 0 p q 0 0 0 u = a * (f * (p * (u * 1)))
    unfold D4 D3 D2
    grind
theorem headR_len (a h : Nat) : (headR a h).length = a + 1 := by
  unfold headR
  rw [List.length_append, List.length_replicate]
  rfl
theorem headR_lt {a h j : Nat} (hj : j < a) : (headR a h).getD j 0 = 0 := by
  unfold headR
  rw [List.getD_eq_getElem?_getD, List.getElem?_append_left (by rw [List.length_replicate]; exact hj), List.getElem?_replicate, if_pos hj]
  rfl
theorem headR_at (a h : Nat) : (headR a h).getD a 0 = (h : Int) := by
  unfold headR
  rw [List.getD_eq_getElem?_getD, List.getElem?_append_right (by rw [List.length_replicate]; exact Nat.le_refl _), List.length_replicate, Nat.sub_self]
  rfl
theorem pairM {α β γ : Type} {F : α → β → Prop} {f : γ → α} {g : γ → β} : ∀ (is : List γ), (∀ i ∈ is, F (f i) (g i)) → Paired F (is.map f) (is.map g)
  | [], _ => .nil
  | i :: is, h => .cons (h i (List.mem_cons_self ..)) (pairM is fun j hj => h j (List.mem_cons_of_mem _ hj))
/-- the pivots of the rows from a on are at a, a + 1, .. -/
def Diag (n : Nat) : Nat → Tops → Prop
  | a, [] => a = n
  | a, p :: T => p.1 = a ∧ a < n ∧ Diag n (a + 1) T
theorem Diag.len {n : Nat} : ∀ {T : Tops} {a : Nat}, Diag n a T → a + T.length = n
  | [], a, h => h
  | p :: T, a, h => by
    have := Diag.len h.2.2
    rw [List.length_cons]
    omega
theorem Diag.get {n : Nat} : ∀ {T : Tops} {a i : Nat} {p : Nat × List Int}, Diag n a T → T[i]? = some p → p.1 = a + i
  | [], _, _, _, _, e => by simp at e
  | q :: T, a, 0, p, h, e => by
    have : q = p := by simpa using e
    subst this
    exact h.1
  | q :: T, a, i + 1, p, h, e => by
    have := Diag.get (i := i) h.2.2 (by simpa using e)
    omega
theorem ut_of {n w : Nat} (hw : n ≤ w) : ∀ {T : Tops} {a : Nat}, Diag n a T → Ech w T → Tid T → ∃ i : Nat, (i : Int) = diagP a (hM n T) ∧ UT a i (hM n T)
  | [], a, _, _, _ => ⟨1, rfl, .nil⟩
  | p :: T, a, hd, E, tid => by
    obtain ⟨i, hi, U⟩ := ut_of hw hd.2.2 E.tail tid.2
    have hp := E.head.1
    obtain ⟨h1, h2, h3⟩ := hd
    have hpos := hp.pos
    rw [h1] at hpos
    obtain ⟨h, eh⟩ : ∃ h : Nat, (h : Int) = p.2.getD a 0 := ⟨(p.2.getD a 0).toNat, by omega⟩
    have lw : (p.2.take n).length = n := by rw [List.length_take, hp.len]; omega
    have hT := h3.len
    have ent' : ∀ j, j < n → (p.2.take n).getD j 0 = p.2.getD j 0 := fun j hj => take_get hj
    refine ⟨h * i, ?_, ?_⟩
    · show ((h * i : Nat) : Int) = (p.2.take n).getD a 0 * diagP (a + 1) (hM n T)
      rw [← hi, ent' a h2, ← eh]
      exact Int.natCast_mul h i
    · have er : p.2.take n = headR a h ++ ((List.range T.length).map fun j => (p.2.getD (a + 1 + j) 0).toNat).map (fun (x : Nat) => (x : Int)) := by
        refine list_ext (w := n) lw (by rw [List.length_append, headR_len, List.length_map, List.length_map, List.length_range]; omega) fun j => ?_
        by_cases hj : j < n
        · rw [ent' j hj]
          by_cases hja : j < a
          · rw [hp.zero j (by omega), List.getD_eq_getElem?_getD, List.getElem?_append_left (by rw [headR_len]; omega), ← List.getD_eq_getElem?_getD, headR_lt hja]
          · by_cases hje : j = a
            · subst hje
              rw [List.getD_eq_getElem?_getD (l := headR j h ++ _), List.getElem?_append_left (by rw [headR_len]; omega), ← List.getD_eq_getElem?_getD, headR_at, eh]
            · obtain ⟨k, rfl⟩ : ∃ k, j = a + 1 + k := ⟨j - (a + 1), by omega⟩
              have hk : k < T.length := by omega
              rw [List.getD_eq_getElem?_getD (l := headR a h ++ _), List.getElem?_append_right (by rw [headR_len]; omega), headR_len, Nat.add_sub_cancel_left, List.getElem?_map, List.getElem?_map, List.getElem?_range hk]
              show _ = (((p.2.getD (a + 1 + k) 0).toNat : Nat) : Int)
              have ek := List.getElem?_eq_getElem hk
              have q0 := tid.1 T[k] (List.getElem_mem hk)
              have e1 := Diag.get h3 ek
              rw [e1] at q0
              omega
        · rw [getD_none (by omega), getD_none (by rw [List.length_append, headR_len, List.length_map, List.length_map, List.length_range]; omega)]
      show UT a (h * i) (p.2.take n :: hM n T)
      rw [er]
      refine .cons (by omega) U ?_
      unfold tabP
      rw [hM_len]
      refine pairM _ fun k hk => ?_
      have hk' := List.mem_range.mp hk
      have ek := List.getElem?_eq_getElem hk'
      have q0 := tid.1 T[k] (List.getElem_mem hk')
      have e1 := Diag.get h3 ek
      rw [e1] at q0
      have e2 : ((hM n T).getD k []).getD (a + 1 + k) 0 = T[k].2.getD (a + 1 + k) 0 := by
        unfold hM
        rw [List.getD_eq_getElem?_getD (l := (rowsT T).map _), List.getElem?_map, show (rowsT T)[k]? = some T[k].2 by unfold rowsT; rw [List.getElem?_map, ek]; rfl]
        exact take_get (by omega)
      rw [e2]
      omega
/-- ascending pivots -/
theorem asc_ge {w : Nat} : ∀ {T : Tops} {a i : Nat} {p : Nat × List Int}, Ech w T → (∀ q ∈ T, a ≤ q.1) → T[i]? = some p → a + i ≤ p.1
  | [], _, _, _, _, _, e => by simp at e
  | q :: T, a, 0, p, E, h, e => by
    have : q = p := by simpa using e
    subst this
    exact h q (List.mem_cons_self ..)
  | q :: T, a, i + 1, p, E, h, e => by
    have h1 := h q (List.mem_cons_self ..)
    have := asc_ge (a := a + 1) (i := i) E.tail (fun r hr => by have := E.head.2 r hr; omega) (by simpa using e)
    omega
theorem diag_of {n w : Nat} : ∀ {T : Tops} {a : Nat}, Ech w T → (∀ q ∈ T, a ≤ q.1) → a + T.length = n → diagP a (hM n T) ≠ 0 → Diag n a T
  | [], a, _, _, hl, _ => hl
  | p :: T, a, E, hge, hl, hd => by
    rw [List.length_cons] at hl
    have h0 : (p.2.take n).getD a 0 * diagP (a + 1) (hM n T) ≠ 0 := hd
    have h1 : (p.2.take n).getD a 0 ≠ 0 := fun e => h0 (by rw [e, Int.zero_mul])
    have h2 : diagP (a + 1) (hM n T) ≠ 0 := fun e => h0 (by rw [e, Int.mul_zero])
    rw [take_get (by omega)] at h1
    have hpa := hge p (List.mem_cons_self ..)
    have e : p.1 = a := by
      rcases Nat.lt_or_ge a p.1 with h | h
      · exact absurd (E.head.1.zero a h) h1
      · omega
    refine ⟨e, by omega, diag_of E.tail (fun q hq => ?_) (by omega) h2⟩
    have := E.head.2 q hq
    omega
theorem diag_nn {n w : Nat} : ∀ {T : Tops} {a : Nat}, Diag n a T → Ech w T → 0 < diagP a (hM n T)
  | [], _, _, _ => by show (0 : Int) < 1; decide
  | p :: T, a, h, E => by
    have h1 := diag_nn h.2.2 E.tail
    have h2 := E.head.1.pos
    rw [h.1] at h2
    show 0 < (p.2.take n).getD a 0 * diagP (a + 1) (hM n T)
    rw [take_get h.2.1]
    exact Int.mul_pos h2 h1
theorem natAbs_pos_eq {x : Int} {i : Nat} (h0 : 0 < x) (h : x.natAbs = i) : x = (i : Int) := by omega
/-- the form of rows of determinant i is in the law's tables -/
theorem herm_mem {A : List (List Int)} {n i : Nat} {T : Tops} (h4 : n ≤ 4) (hs : Sz n A) (hi : 0 < i) (hd : (detL n A).natAbs = i) (F : HForm A n n T) : hM n T ∈ lawT n i 0 := by
  have hl : (hM n T).length = n := by rw [hM_len, F.len]
  have hS : Sz n (hM n T) := ⟨hl, hM_row F.E⟩
  have hz : ∀ i j, j < i → ent (hM n T) i j = 0 := fun i j hij => by
    by_cases hj : j < n
    · rw [hM_ent hj]
      by_cases hiT : i < T.length
      · have ek := List.getElem?_eq_getElem hiT
        have e1 := asc_ge (a := 0) F.E (fun _ _ => Nat.zero_le _) ek
        have : (rowsT T).getD i [] = T[i].2 := by unfold rowsT; rw [List.getD_eq_getElem?_getD, List.getElem?_map, ek]; rfl
        rw [this]
        exact (F.E.pv _ (List.getElem_mem hiT)).zero j (by omega)
      · have : (rowsT T).getD i [] = [] := by unfold rowsT; rw [List.getD_eq_getElem?_getD, List.getElem?_map, List.getElem?_eq_none (by omega)]; rfl
        rw [this]
        rfl
    · by_cases hiT : i < n
      · exact absurd hj (by omega)
      · unfold ent
        rw [List.getD_eq_getElem?_getD (l := hM n T), List.getElem?_eq_none (by omega)]
        rfl
  have hdet := det_up h4 hS hz
  have hmul := F.mul hs.len hs.row
  have hud := F.det h4 hs.len hs.row
  have e := congrArg (detL n) hmul
  rw [det_mul h4 ⟨by rw [uM_len, F.len], uM_row F.E⟩ hs, hdet] at e
  have e2 : (diagP 0 (hM n T)).natAbs = i := by rw [e, Int.natAbs_mul, hud, hd, Nat.one_mul]
  have D := diag_of (n := n) (a := 0) F.E (fun _ _ => Nat.zero_le _) (by rw [F.len, Nat.zero_add]) fun h => by rw [h] at e2; simp at e2; omega
  obtain ⟨k, hk, U⟩ := ut_of (Nat.le_add_right n n) D F.E F.tid
  have hp := diag_nn D F.E
  have ek : k = i := by omega
  subst ek
  have := U.mem
  rwa [hl] at this

end
end K44
namespace K44
open PySem PySem.Spec PyProof.Rows L2 Gm
open C8 (Cal Met Mak pe_c pe_mt pe_mt0 pe_mk)
section
variable {P : Program} {w : World} {K : PySem.W.Frag} {mg : Str → Option Value} {base : Heap}
/-! ### with_powers, divisors -/
def cI (ns : List Nat) : List Int := ns.map fun (x : Nat) => (x : Int)
def withP (ns : List Nat) (p m : Nat) : List Nat := (List.range (m + 1)).flatMap fun k => ns.map fun x => x * p ^ k
theorem withP_succ (ns : List Nat) (p m : Nat) : withP ns p (m + 1) = withP ns p m ++ ns.map fun x => x * p ^ (m + 1) := by
  unfold withP
  rw [List.range_succ (n := m + 1), List.flatMap_append]
  simp
theorem withP_zero (ns : List Nat) (p : Nat) : withP ns p 0 = ns := by
  unfold withP
  simp
theorem withP_len (ns : List Nat) (p : Nat) : ∀ m, (withP ns p m).length = (m + 1) * ns.length
  | 0 => by rw [withP_zero]; omega
  | m + 1 => by rw [withP_succ, List.length_append, withP_len ns p m, List.length_map, Nat.add_mul (m + 1) 1, Nat.one_mul]
theorem cI_app (x y : List Nat) : cI (x ++ y) = cI x ++ cI y := List.map_append
theorem cI_len (x : List Nat) : (cI x).length = x.length := List.length_map ..
def sp_with_powers (K : PySem.W.Frag) : Sp := fun vs H Q _ => ∃ (a : Addr) (ns : List Nat) (p m : Nat), vs = [.ref a, .int (p : Int), .int (m : Int)] ∧ SqL K H a ((cI ns).map V.int) ∧ ns.length ≤ 60 ∧ (∀ x ∈ ns, x < 2 ^ 6) ∧ p < 2 ^ 6 ∧ m ≤ 6 ∧ ∀ r H', Same H H' → H' r = some (.lst ((cI (withP ns p m)).map V.int)) → Q (.ref r) H'
theorem ok_with_powers (T : Top K mg) (hN : base.NoSeer) (hT : P.given.tree = none) : FnOk P w K mg base CX0 1 T.a_with_powers T.d_with_powers ["numbers", "prime", "many"] (sp_with_powers K) := by
  refine T.F_with_powers.ok sc_with_powers (fun vs H Q E h => ?_) (fun cdv A outer s H vs Q E hr h => ?_)
  · obtain ⟨a, ns, p, m, rfl, _⟩ := h
    rfl
  · obtain ⟨a, ns, p, m, rfl, ha, hl, hns, hp, hm, q⟩ := h
    refine ⟨_, (pss_cons (ps_set (i := 3) sc_with_powers.nd rfl (by first | exact .inl rfl | exact .inr rfl) (pe_callTy (listK K rfl) (by rfl) T.z_list (by decide +kernel) (pa_cons (pv 0) pa_nil)))
      (pss_cons (ps_set (i := 4) sc_with_powers.nd rfl (by first | exact .inl rfl | exact .inr rfl) (pv 0))
      (pss_cons (ps_for PassesOwn.never rfl (pi_range1 (by rfl) T.z_range (pa_cons (pv 2) pa_nil)) (pg_name (i := 5) sc_with_powers.nd rfl (by first | exact .inl rfl | exact .inr rfl))
      (pss_cons (ps_setLc (i := 4) (own := [("number", 6)]) (g := (gName 6)) (by rfl) sc_with_powers.nd rfl rfl (sw_true rfl rfl rfl (by decide +kernel)) (piL K rfl (pv 4)) ((by show BlkOk ["numbers", "prime", "many", "found", "layer", "_", "number"] (defScope s_with_powers) _ _; exact blkOk_by (by decide +kernel))) (fun _ _ _ _ _ => (pg_name (i := 6) sc_with_powers.nd rfl (by first | exact .inl rfl | exact .inr rfl))) (fun _ _ _ _ _ => pts_nil) (fun _ _ _ _ _ => (pe_op op_mulX (pv 6) (pv 1))))
      (pss_one (ps_set (i := 3) sc_with_powers.nd rfl (by first | exact .inl rfl | exact .inr rfl) (pe_op op_cat (pv 3) (pv 4))))))
      (pss_one (ps_ret (pv 3)))))), ?_⟩
    refine ⟨_, rfl, a, _, rfl, .inl ha, fun D0 hD0 => ⟨_, rfl, ?_⟩⟩
    have s0 := same_upd (o := .lst ((cI ns).map V.int)) hD0
    refine ⟨_, rfl, (m : Int), rfl, by omega, by omega, ?_⟩
    rw [show ((m : Int)).toNat = m from Int.toNat_natCast _]
    refine for_it walk_range (fun j σ H3 => ∃ (d e : Addr) (y5 y6 : Option V), σ = [some (.ref a), some (.int p), some (.int m), some (.ref d), some (.ref e), y5, y6] ∧ Same H H3 ∧ H3 d = some (.lst ((cI (withP ns p j)).map V.int)) ∧ SqL K H3 e ((cI (ns.map fun x => x * p ^ j)).map V.int)) ⟨D0, a, none, none, rfl, s0, by rw [withP_zero]; exact upd_same, ?_⟩ (fun _ _ _ _ _ => trivial) ?_ ?_
    · have : (ns.map fun x => x * p ^ 0) = ns := by simp
      rw [this]
      exact Same.seq s0 ha
    · rintro j x σ H3 H3' hj ⟨d, e, y5, y6, rfl, s3, hd, he⟩ ⟨rfl, rfl⟩
      refine ⟨_, rfl, e, rfl, ⟨_, he⟩, fun D hD => ?_⟩
      refine lc_all (walk_list (xs := (cI (ns.map fun x => x * p ^ j)).map V.int)) hD (by rw [List.length_map, cI_len, List.length_map]; omega) (fun H4 s4 => Same.seq s4 he) (fun i v _ => ∃ z, (cI (ns.map fun x => x * p ^ (j + 1)))[i]? = some z ∧ v = .int z) (fun _ _ _ _ _ _ _ h => h) ?_ gm_name ?_
      · rintro i x H4 H4' acc Ko hi s4 eD ⟨rfl, ex⟩ k
        obtain ⟨z, ez, rfl⟩ := ints_get ex
        refine ⟨rfl, ?_⟩
        unfold cI at ez
        rw [List.map_map, List.getElem?_map] at ez
        cases ex0 : ns[i]? with
        | none => rw [ex0] at ez; cases ez
        | some x0 =>
          rw [ex0] at ez
          have e0 : ((x0 * p ^ j : Nat) : Int) = z := Option.some.inj ez
          subst e0
          have hx0 := hns x0 (List.mem_of_getElem? ex0)
          have h1 : p ^ j ≤ 2 ^ 36 := Nat.le_trans (Nat.pow_le_pow_left (show p ≤ 64 by omega) j) (Nat.le_trans (Nat.pow_le_pow_right (n := 64) (by decide) (show j ≤ 6 by omega)) (by decide))
          have hb : x0 * p ^ j < 2 ^ 6 * 2 ^ 36 := by
            have := Nat.mul_le_mul (show x0 ≤ 63 by omega) h1
            omega
          refine ⟨_, rfl, _, rfl, ((x0 * p ^ j : Nat) : Int), (p : Int), rfl, rfl, mulx_ok (a := 42) (b := 6) (by rw [Int.natAbs_natCast]; exact hb) (by omega) (by decide), ?_⟩
          refine k _ _ (fun _ _ h => h) ⟨_, ?_, rfl⟩
          unfold cI
          rw [List.map_map, List.getElem?_map, ex0]
          show some (((x0 * p ^ (j + 1) : Nat) : Int)) = some (((x0 * p ^ j : Nat) : Int) * (p : Int))
          rw [Nat.pow_succ, ← Nat.mul_assoc, Int.natCast_mul]
      · intro H4 l s4 eD hpl
        have el := ints_list (by rw [List.length_map, cI_len, cI_len, List.length_map, List.length_map]) hpl
        subst el
        have hd4 := s4 _ _ hd
        refine ⟨_, rfl, _, rfl, d, D, _, _, rfl, rfl, hd4, eD, ?_, fun p' hp' => ?_⟩
        · rw [List.length_map, List.length_map, cI_len, cI_len, List.length_map, withP_len, sizeLine_eq]
          have := Nat.mul_le_mul (show j + 1 ≤ 7 by omega) hl
          omega
        · have s5 := same_upd (o := .lst ((cI (withP ns p (j + 1))).map V.int)) hp'
          refine ⟨p', D, _, _, rfl, s3.trans (s4.trans (same_upd hp')), ?_, .inl (.inl (same_upd hp' _ _ eD))⟩
          rw [withP_succ, cI_app, List.map_append]
          exact upd_same
    · rintro σ H3 ⟨d, e, y5, y6, rfl, s3, hd, he⟩
      exact ⟨_, rfl, q _ _ s3 hd⟩
theorem cal_with_powers (T : Top K mg) (hN : base.NoSeer) (hT : P.given.tree = none) : Cal P w K mg base 1 "with_powers" (sp_with_powers K) [] := ⟨⟨_, _, _, [], ok_with_powers T hN hT, T.g_with_powers, T.F_with_powers.kp, T.b_with_powers, .nil⟩⟩

end
end K44
namespace K44
open PySem PySem.Spec PyProof.Rows L2 Gm
open C8 (Cal Met Mak pe_c pe_mt pe_mt0 pe_mk)
section
variable {P : Program} {w : World} {K : PySem.W.Frag} {mg : Str → Option Value} {base : Heap}
/-! ### divisors, by steps -/
def inD : Nat → Nat → Nat → Nat → Nat × Nat
  | 0, n, _, m => (n, m)
  | k + 1, n, p, m => if n % p = 0 then inD k (n / p) p (m + 1) else (n, m)
def stD : Nat → Nat → Nat × Nat × List Nat
  | 0, n => (n, 2, [1])
  | j + 1, n => ((inD 6 (stD j n).1 (stD j n).2.1 0).1, (stD j n).2.1 + (if (stD j n).2.1 = 2 then 1 else 2), if (inD 6 (stD j n).1 (stD j n).2.1 0).2 > 0 then withP (stD j n).2.2 (stD j n).2.1 (inD 6 (stD j n).1 (stD j n).2.1 0).2 else (stD j n).2.2)
def endD (n : Nat) (fs : List Nat) : List Nat := if n > 1 then withP fs n 1 else fs
def okD (n : Nat) (s : Nat × Nat × List Nat) : Bool := decide (1 ≤ s.1) && decide (s.1 ≤ 60) && decide (2 ≤ s.2.1) && decide (s.2.1 ≤ 20) && decide (s.2.2.length ≤ 30) && s.2.2.all (fun x => decide (x < 64)) && (decide (s.2.1 * s.2.1 ≤ s.1) || (endD s.1 s.2.2).isPerm (divsN n))
theorem okD_all : ∀ n < 61, 0 < n → ∀ j < 8, okD n (stD j n) = true := by decide +kernel
theorem okD_end : ∀ n < 61, 0 < n → (stD 7 n).1 < (stD 7 n).2.1 * (stD 7 n).2.1 := by decide +kernel
theorem divsN_asc : ∀ n < 61, (cI (divsN n)).Pairwise (· ≤ ·) := by decide +kernel
structure OkD (n : Nat) (s : Nat × Nat × List Nat) : Prop where
  n1 : 1 ≤ s.1
  n2 : s.1 ≤ 60
  p1 : 2 ≤ s.2.1
  p2 : s.2.1 ≤ 20
  len : s.2.2.length ≤ 30
  lt : ∀ x ∈ s.2.2, x < 2 ^ 6
  fin : s.1 < s.2.1 * s.2.1 → (endD s.1 s.2.2).Perm (divsN n)
theorem okD_of {n j : Nat} (h1 : 1 ≤ n) (h2 : n ≤ 60) (hj : j < 8) : OkD n (stD j n) := by
  have h := okD_all n (by omega) h1 j hj
  unfold okD at h
  simp only [Bool.and_eq_true, decide_eq_true_eq, Bool.or_eq_true, List.all_eq_true] at h
  obtain ⟨⟨⟨⟨⟨⟨a1, a2⟩, a3⟩, a4⟩, a5⟩, a6⟩, a7⟩ := h
  exact ⟨a1, a2, a3, a4, a5, fun x hx => a6 x hx, fun hlt => List.isPerm_iff.mp (a7.resolve_left (by omega))⟩
/-- the inner turns -/
structure InI (n p i c : Nat) : Prop where
  i6 : i ≤ 6
  c1 : 1 ≤ c
  c2 : c * 2 ^ i ≤ 60
  res : inD 6 n p 0 = inD (6 - i) c p i
theorem InI.start {n p : Nat} (h1 : 1 ≤ n) (h2 : n ≤ 60) : InI n p 0 n := ⟨by omega, h1, by omega, rfl⟩
theorem InI.lt {n p i c : Nat} (h : InI n p i c) : i < 6 := by
  have h1 := h.c1
  have h2 := h.c2
  have h3 := h.i6
  rcases Nat.lt_or_ge i 6 with h4 | h4
  · exact h4
  · have : i = 6 := by omega
    subst this
    omega
theorem InI.le {n p i c : Nat} (h : InI n p i c) : c ≤ 60 := by
  have h2 := h.c2
  have : c * 1 ≤ c * 2 ^ i := Nat.mul_le_mul_left c (Nat.pow_pos (by decide))
  omega
theorem InI.next {n p i c : Nat} (h : InI n p i c) (hp : 2 ≤ p) (hd : c % p = 0) : InI n p (i + 1) (c / p) := by
  have h0 := h.lt
  have h1 := h.c1
  have e : c / p * p = c := Nat.div_mul_cancel (Nat.dvd_of_mod_eq_zero hd)
  have q1 : 1 ≤ c / p := by
    rcases Nat.eq_zero_or_pos (c / p) with z | z
    · rw [z, Nat.zero_mul] at e; omega
    · exact z
  refine ⟨by omega, q1, ?_, ?_⟩
  · have h2 := h.c2
    have : c / p * 2 ≤ c := by
      have := Nat.mul_le_mul_left (c / p) hp
      omega
    have := Nat.mul_le_mul_right (2 ^ i) this
    rw [Nat.pow_succ, Nat.mul_comm (2 ^ i) 2, ← Nat.mul_assoc]
    omega
  · rw [h.res, show 6 - i = (6 - (i + 1)) + 1 by omega, inD, if_pos hd]
theorem InI.done {n p i c : Nat} (h : InI n p i c) (hd : c % p ≠ 0) : inD 6 n p 0 = (c, i) := by
  have h0 := h.lt
  rw [h.res, show 6 - i = (6 - (i + 1)) + 1 by omega, inD, if_neg hd]
def muD0 : L2.St → Hp → Nat := fun σ _ => match σ with
  | some (.int n) :: _ => n.toNat
  | _ => 0
def muD2 : L2.St → Hp → Nat := fun σ _ => match σ with
  | _ :: _ :: some (.int p) :: _ => 64 - p.toNat
  | _ => 0
def sp_divisors (K : PySem.W.Frag) : Sp := fun vs H Q _ => ∃ (n : Nat), vs = [.int (n : Int)] ∧ 1 ≤ n ∧ n ≤ 60 ∧ ∀ v H', Same H H' → TRow K H' v (cI (divsN n)) → Q v H'
theorem ok_divisors (T : Top K mg) (hN : base.NoSeer) (hT : P.given.tree = none) : FnOk P w K mg base CX0 43 T.a_divisors T.d_divisors ["n"] (sp_divisors K) := by
  refine T.F_divisors.ok sc_divisors (fun vs H Q E h => ?_) (fun cdv A outer s H vs Q E hr h => ?_)
  · obtain ⟨n, rfl, _⟩ := h
    rfl
  · obtain ⟨n, rfl, hn1, hn2, q⟩ := h
    refine ⟨_, (pss_cons (ps_set (i := 1) sc_divisors.nd rfl (by first | exact .inl rfl | exact .inr rfl) (pe_lst (pa_cons pe_int pa_nil)))
      (pss_cons (ps_set (i := 2) sc_divisors.nd rfl (by first | exact .inl rfl | exact .inr rfl) pe_int)
      (pss_cons (ps_while PassesOwn.never (pt_cmpR op_le (pe_op op_mulX (pv 2) (pv 2)) (pv 0) (nomark _))
      (pss_cons (ps_set (i := 3) sc_divisors.nd rfl (by first | exact .inl rfl | exact .inr rfl) pe_int)
      (pss_cons (ps_while PassesOwn.never (pt_cmpR op_eq (pe_op op_mod (pv 0) (pv 2)) pe_int (nomark _))
      (pss_cons (ps_set (i := 0) sc_divisors.nd rfl (by first | exact .inl rfl | exact .inr rfl) (pe_op (op_fdivQ hN rfl rfl rfl rfl rfl hT (room100 hr (by decide))) (pv 0) (pv 2)))
      (pss_one (ps_aug (i := 3) sc_divisors.nd rfl (by first | exact .inl rfl | exact .inr rfl) pe_int ip_add))))
      (pss_cons (ps_if (pt_cmpR op_gt (pv 3) pe_int (nomark _))
      (pss_one (ps_set (i := 1) sc_divisors.nd rfl (by first | exact .inl rfl | exact .inr rfl) (pe_c (cal_with_powers T hN hT) hr (by decide) (by rfl) (pa_cons (pv 1) (pa_cons (pv 2) (pa_cons (pv 3) pa_nil))))))
      pss_nil)
      (pss_one (ps_aug (i := 2) sc_divisors.nd rfl (by first | exact .inl rfl | exact .inr rfl) (pe_ifExp (pt_cmpR op_eq (pv 2) pe_int (nomark _)) pe_int pe_int) ip_add))))))
      (pss_cons (ps_if (pt_cmpR op_gt (pv 0) pe_int (nomark _))
      (pss_one (ps_set (i := 1) sc_divisors.nd rfl (by first | exact .inl rfl | exact .inr rfl) (pe_c (cal_with_powers T hN hT) hr (by decide) (by rfl) (pa_cons (pv 1) (pa_cons (pv 0) (pa_cons pe_int pa_nil))))))
      pss_nil)
      (pss_one (ps_ret (pe_callTy (tupK K rfl) (by rfl) T.z_tuple (by decide +kernel) (pa_cons (pe_callB (sortIK K rfl) (by rfl) T.z_sorted (by decide +kernel) (pa_cons (pv 1) pa_nil)) pa_nil)))))))), ?_⟩
    refine ⟨by show 1 ≤ sizeLine; decide, fun D0 hD0 => ?_⟩
    have s0 := same_upd (o := .lst [V.int 1]) hD0
    refine while_by (fun σ H2 => Same H H2 ∧ ∃ (j : Nat) (d : Addr) (y3 : Option V), j < 8 ∧ σ = [some (.int ((stD j n).1 : Int)), some (.ref d), some (.int ((stD j n).2.1 : Int)), y3] ∧ H2 d = some (.lst ((cI (stD j n).2.2).map V.int))) muD2 ⟨s0, 0, D0, none, by decide, rfl, upd_same⟩ ?_ ?_
    · rintro σ H2 ⟨s2, j, d, y3, hj, rfl, hd⟩
      have O := okD_of (n := n) hn1 hn2 hj
      have hnx : stD (j + 1) n = ((inD 6 (stD j n).1 (stD j n).2.1 0).1, (stD j n).2.1 + (if (stD j n).2.1 = 2 then 1 else 2), if (inD 6 (stD j n).1 (stD j n).2.1 0).2 > 0 then withP (stD j n).2.2 (stD j n).2.1 (inD 6 (stD j n).1 (stD j n).2.1 0).2 else (stD j n).2.2) := rfl
      have hj7 : j = 7 → (stD j n).1 < (stD j n).2.1 * (stD j n).2.1 := fun e => by subst e; exact okD_end n (by omega) hn1
      obtain ⟨c, p, fs, hst⟩ : ∃ c p fs, stD j n = (c, p, fs) := ⟨_, _, _, rfl⟩
      rw [hst] at O hd hnx hj7 ⊢
      obtain ⟨o1, o2, o3, o4, o5, o6, o7⟩ := id O
      dsimp only at o1 o2 o3 o4 o5 o6 o7 hd hnx hj7 ⊢
      refine ⟨_, rfl, _, rfl, (p : Int), (p : Int), rfl, rfl, mulx_ok (a := 6) (b := 6) (by omega) (by omega) (by decide), _, rfl, _, _, rfl, rfl, ⟨_, rfl, ?_⟩⟩
      by_cases hpp : p * p ≤ c
      · rw [decide_eq_true (show (p : Int) * (p : Int) ≤ (c : Int) by rw [← Int.natCast_mul]; omega)]
        refine iteT ?_
        refine while_by (fun σ H3 => H3 = H2 ∧ ∃ i c2 : Nat, σ = [some (.int (c2 : Int)), some (.ref d), some (.int (p : Int)), some (.int (i : Int))] ∧ InI c p i c2) muD0 ⟨rfl, 0, c, rfl, InI.start o1 o2⟩ ?_ ?_
        · rintro σ H3 ⟨rfl, i, c2, rfl, I⟩
          have c0 := I.c1
          have cl := I.le
          refine ⟨_, rfl, _, rfl, (c2 : Int), (p : Int), rfl, rfl, by show (0 : Int) < (p : Int); omega, rfl, ⟨_, rfl, ?_⟩⟩
          by_cases hd0 : c2 % p = 0
          · rw [decide_eq_true (show V.int ((c2 : Int) % (p : Int)) = V.int 0 by rw [← Int.natCast_emod, hd0]; rfl)]
            refine iteT ?_
            refine ⟨_, rfl, _, rfl, (c2 : Int), (p : Int), rfl, rfl, by show (p : Int) ≠ 0; omega, ?_⟩
            have ef : ((c2 : Int)).fdiv (p : Int) = ((c2 / p : Nat) : Int) := by rw [Int.fdiv_eq_ediv_of_nonneg _ (by omega)]; rfl
            have J := I.next o3 hd0
            refine ⟨_, rfl, _, _, rfl, rfl, ⟨rfl, i + 1, c2 / p, ?_, J⟩, ?_⟩
            · show [some (V.int (((c2 : Int)).fdiv (p : Int))), some (.ref d), some (.int (p : Int)), some (.int ((i : Int) + 1))] = _
              rw [ef]
              rfl
            · show (((c2 : Int)).fdiv (p : Int)).toNat < ((c2 : Int)).toNat
              rw [ef, Int.toNat_natCast, Int.toNat_natCast]
              exact Nat.div_lt_self c0 o3
          · rw [decide_eq_false (show ¬ V.int ((c2 : Int) % (p : Int)) = V.int 0 from fun z => hd0 (by have := V.int.inj z; rw [← Int.natCast_emod] at this; omega))]
            refine iteF ?_
            have hin := I.done hd0
            rw [hin] at hnx
            dsimp only at hnx
            refine ⟨_, rfl, _, _, rfl, rfl, ⟨_, rfl, ?_⟩⟩
            by_cases hi0 : i > 0
            · rw [decide_eq_true (show (0 : Int) < (i : Int) by omega)]
              rw [if_pos hi0] at hnx
              refine iteT ?_
              refine ⟨_, rfl, _, rfl, _, rfl, d, fs, p, i, rfl, .inl (.inl hd), by omega, o6, by omega, I.i6, fun r H4 s4 hr4 => ?_⟩
              have hj8 : j + 1 < 8 := by
                rcases Nat.lt_or_ge j 7 with h | h
                · omega
                · exact absurd (hj7 (by omega)) (by omega)
              refine ⟨_, rfl, ⟨_, rfl, rfl, ⟨_, rfl, ?_⟩⟩⟩
              by_cases hp2 : p = 2
              · subst hp2
                refine iteT ?_
                refine ⟨_, _, rfl, rfl, ⟨s2.trans s4, j + 1, r, some (.int (i : Int)), hj8, ?_, ?_⟩, ?_⟩
                · rw [hnx]
                  rfl
                · rw [hnx]
                  exact hr4
                · show 64 - ((2 : Int) + 1).toNat < 64 - ((2 : Int)).toNat
                  decide
              · rw [decide_eq_false (show ¬ V.int (p : Int) = V.int 2 from fun z => hp2 (by have := V.int.inj z; omega))]
                refine iteF ?_
                rw [if_neg hp2] at hnx
                refine ⟨_, _, rfl, rfl, ⟨s2.trans s4, j + 1, r, some (.int (i : Int)), hj8, ?_, ?_⟩, ?_⟩
                · rw [hnx]
                  rfl
                · rw [hnx]
                  exact hr4
                · show 64 - ((p : Int) + 2).toNat < 64 - ((p : Int)).toNat
                  omega
            · rw [decide_eq_false (show ¬ (0 : Int) < (i : Int) by omega)]
              rw [if_neg hi0] at hnx
              refine iteF ?_
              have hj8 : j + 1 < 8 := by
                rcases Nat.lt_or_ge j 7 with h | h
                · omega
                · exact absurd (hj7 (by omega)) (by omega)
              refine ⟨_, rfl, ⟨_, rfl, rfl, ⟨_, rfl, ?_⟩⟩⟩
              by_cases hp2 : p = 2
              · subst hp2
                refine iteT ?_
                refine ⟨_, _, rfl, rfl, ⟨s2, j + 1, d, some (.int (i : Int)), hj8, ?_, ?_⟩, ?_⟩
                · rw [hnx]
                  rfl
                · rw [hnx]
                  exact hd
                · show 64 - ((2 : Int) + 1).toNat < 64 - ((2 : Int)).toNat
                  decide
              · rw [decide_eq_false (show ¬ V.int (p : Int) = V.int 2 from fun z => hp2 (by have := V.int.inj z; omega))]
                refine iteF ?_
                rw [if_neg hp2] at hnx
                refine ⟨_, _, rfl, rfl, ⟨s2, j + 1, d, some (.int (i : Int)), hj8, ?_, ?_⟩, ?_⟩
                · rw [hnx]
                  rfl
                · rw [hnx]
                  exact hd
                · show 64 - ((p : Int) + 2).toNat < 64 - ((p : Int)).toNat
                  omega
        · rintro σ H Q1 Q2 h1 ⟨u1, e1, u2, e2, z1, z2, e3, e4, e5, e6, z5, e7, hq⟩
          exact ⟨u1, e1, u2, e2, z1, z2, e3, e4, e5, e6, z5, e7, h1 _ _ hq⟩
      · rw [decide_eq_false (show ¬ (p : Int) * (p : Int) ≤ (c : Int) by rw [← Int.natCast_mul]; omega)]
        refine iteF ?_
        have hperm := o7 (by omega)
        have fin : ∀ (r : Addr) (H4 : Hp), Same H H4 → H4 r = some (.lst ((cI (endD c fs)).map V.int)) → ∀ (ns' : List Int) (p' : Addr), ns'.Perm (cI (endD c fs)) → ns'.Pairwise (· ≤ ·) → H4 p' = none → ∀ t, (upd H4 p' (.lst (ns'.map V.int))) t = none → Q (.ref t) (upd (upd H4 p' (.lst (ns'.map V.int))) t (.tup (ns'.map V.int))) := fun r H4 s4 h4 ns' p' hp' ho hn t ht => by
          have e : ns' = cI (divsN n) := sorted_uniq (hp'.trans (hperm.map _)) ho (divsN_asc n (by omega))
          subst e
          exact q _ _ (s4.trans ((same_upd hn).trans (same_upd ht))) ⟨t, rfl, .inl (.inl upd_same)⟩
        refine ⟨_, rfl, _, _, rfl, rfl, ⟨_, rfl, ?_⟩⟩
        by_cases hc1 : c > 1
        · rw [decide_eq_true (show (1 : Int) < (c : Int) by omega)]
          have ee : endD c fs = withP fs c 1 := if_pos hc1
          rw [ee] at fin
          refine iteT ?_
          refine ⟨_, rfl, _, rfl, d, fs, c, 1, rfl, .inl (.inl hd), by omega, o6, by omega, by decide, fun r H4 s4 hr4 => ?_⟩
          refine ⟨_, rfl, r, _, rfl, .inl (.inl hr4), fun ns' p' hp' ho hn => ?_⟩
          refine ⟨p', _, rfl, .inl ⟨.inl (.inl upd_same), fun t ht => ?_⟩⟩
          exact fin r H4 (s2.trans s4) hr4 ns' p' hp' ho hn t ht
        · rw [decide_eq_false (show ¬ (1 : Int) < (c : Int) by omega)]
          have ee : endD c fs = fs := if_neg hc1
          rw [ee] at fin
          refine iteF ?_
          refine ⟨_, rfl, d, _, rfl, .inl (.inl hd), fun ns' p' hp' ho hn => ?_⟩
          refine ⟨p', _, rfl, .inl ⟨.inl (.inl upd_same), fun t ht => ?_⟩⟩
          exact fin d H2 s2 hd ns' p' hp' ho hn t ht
    · rintro σ H2 Q1 Q2 h1 ⟨u1, e1, u2, e2, z1, z2, e3, e4, e5, u3, e6, z3, z4, e7, e8, z5, e9, hq⟩
      exact ⟨u1, e1, u2, e2, z1, z2, e3, e4, e5, u3, e6, z3, z4, e7, e8, z5, e9, h1 _ _ hq⟩
theorem cal_divisors (T : Top K mg) (hN : base.NoSeer) (hT : P.given.tree = none) : Cal P w K mg base 43 "divisors" (sp_divisors K) [] := ⟨⟨_, _, _, [], ok_divisors T hN hT, T.g_divisors, T.F_divisors.kp, T.b_divisors, .nil⟩⟩

end
end K44
namespace K44
open PySem PySem.Spec PyProof.Rows L2 Gm
open C8 (Cal Met Mak pe_c pe_mt pe_mt0 pe_mk)
section
variable {P : Program} {w : World} {K : PySem.W.Frag} {mg : Str → Option Value} {base : Heap}
/-! ### pivot_tuples -/
def okPt (k i : Nat) : Bool := decide ((ptN k i).length ≤ 900) && (ptN k i).all fun p => decide (1 ≤ p.2) && decide (p.2 ≤ 60) && decide (p.1.length ≤ 4)
theorem okPt_all : ∀ i < 61, 0 < i → ∀ k < 4, okPt k i = true := by decide +kernel
theorem okPt_of {k i : Nat} (h1 : 1 ≤ i) (h2 : i ≤ 60) (hk : k < 4) : (ptN k i).length ≤ 900 ∧ ∀ p ∈ ptN k i, 1 ≤ p.2 ∧ p.2 ≤ 60 ∧ p.1.length ≤ 4 := by
  have h := okPt_all i (by omega) h1 k hk
  unfold okPt at h
  simp only [Bool.and_eq_true, decide_eq_true_eq, List.all_eq_true] at h
  exact ⟨h.1, fun p hp => ⟨(h.2 p hp).1.1, (h.2 p hp).1.2, (h.2 p hp).2⟩⟩
theorem okDv_all : ∀ i < 61, (divsN i).all (fun d => decide (1 ≤ d)) = true := by decide +kernel
theorem divs_pos {i d : Nat} (h : i ≤ 60) (hd : d ∈ divsN i) : 1 ≤ d := by
  have := List.all_eq_true.mp (okDv_all i (by omega)) d hd
  simpa using this
def PairV (K : PySem.W.Frag) (H : Hp) (v : V) (q : List Nat × Nat) : Prop := ∃ a b, v = .ref a ∧ SqT K H a [.ref b, .int (q.2 : Int)] ∧ SqT K H b ((cI q.1).map V.int)
theorem PairV.off {K : PySem.W.Frag} {H H' : Hp} {v : V} {q : List Nat × Nat} {D : Addr} {acc : List V} (hD : H D = some (.lst acc)) (e : Off D H H') (h : PairV K H v q) : PairV K H' v q := let ⟨a, b, ev, h1, h2⟩ := h; ⟨a, b, ev, sqT_off hD e h1, sqT_off hD e h2⟩
theorem PairV.same {K : PySem.W.Frag} {H H' : Hp} {v : V} {q : List Nat × Nat} (e : Same H H') (h : PairV K H v q) : PairV K H' v q := let ⟨a, b, ev, h1, h2⟩ := h; ⟨a, b, ev, Same.seqT e h1, Same.seqT e h2⟩
def sp_pivot_tuples (K : PySem.W.Frag) : Sp := fun vs H Q _ => ∃ (n i : Nat), vs = [.int (n : Int), .int (i : Int)] ∧ 1 ≤ n ∧ n ≤ 4 ∧ 1 ≤ i ∧ i ≤ 60 ∧ ∀ r l H', Same H H' → H' r = some (.lst l) → Paired (fun v q => TRow K H' v (cI q)) l (pivN n i) → Q (.ref r) H'
theorem ok_pivot_tuples (T : Top K mg) (hN : base.NoSeer) (hT : P.given.tree = none) : FnOk P w K mg base CX0 45 T.a_pivot_tuples T.d_pivot_tuples ["n", "index"] (sp_pivot_tuples K) := by
  refine T.F_pivot_tuples.ok sc_pivot_tuples (fun vs H Q E h => ?_) (fun cdv A outer s H vs Q E hr h => ?_)
  · obtain ⟨n, i, rfl, _⟩ := h
    rfl
  · obtain ⟨n, i, rfl, hn1, hn4, hi1, hi2, q⟩ := h
    refine ⟨_, (pss_cons (ps_set (i := 2) sc_pivot_tuples.nd rfl (by first | exact .inl rfl | exact .inr rfl) (pe_lst (pa_cons (pe_tup (pa_cons (pe_tup pa_nil) (pa_cons (pv 1) pa_nil))) pa_nil)))
      (pss_cons (ps_for PassesOwn.never rfl (pi_range1 (by rfl) T.z_range (pa_cons (pe_op op_sub (pv 0) pe_int) pa_nil)) (pg_name (i := 3) sc_pivot_tuples.nd rfl (by first | exact .inl rfl | exact .inr rfl))
      (pss_one (ps_setLc2 (i := 2) (own := [("one", 4), ("left", 5), ("p", 6)]) (vs1 := [6]) (g := (gTup K 2 (gCons (gName 4) (gCons (gName 5) gNil)))) (g1 := (gName 6)) (by rfl) sc_pivot_tuples.nd rfl rfl (sw_true rfl rfl rfl (by decide +kernel)) (piL K rfl (pv 2)) (by show BlkOk ["n", "index", "found", "_", "one", "left", "p"] (defScope s_pivot_tuples) _ _; exact blkOk_by (by decide +kernel)) (by decide) (fun _ _ _ _ _ => (pg_tup rfl (pgs_cons (pg_name (i := 4) sc_pivot_tuples.nd rfl (by first | exact .inl rfl | exact .inr rfl)) (pgs_cons (pg_name (i := 5) sc_pivot_tuples.nd rfl (by first | exact .inl rfl | exact .inr rfl)) pgs_nil)))) (fun _ _ _ _ _ => pts_nil) (fun _ _ _ _ _ => (piT K rfl (pe_c (cal_divisors T hN hT) hr (by decide) (by rfl) (pa_cons (pv 5) pa_nil)))) (fun _ _ _ _ _ => (pg_name (i := 6) sc_pivot_tuples.nd rfl (by first | exact .inl rfl | exact .inr rfl))) (fun _ _ _ _ _ => pts_nil) (fun _ _ _ _ _ => (pe_tup (pa_cons (pe_op (catK K rfl) (pv 4) (pe_tup (pa_cons (pv 6) pa_nil))) (pa_cons (pe_op (op_fdivQ hN rfl rfl rfl rfl rfl hT (room100 hr (by decide))) (pv 5) (pv 6)) pa_nil)))))))
      (pss_one (ps_ret (pe_lc (own := [("one", 4), ("left", 5)]) (g := (gTup K 2 (gCons (gName 4) (gCons (gName 5) gNil)))) (by rfl) sc_pivot_tuples.nd (piL K rfl (pv 2)) ((by show BlkOk ["n", "index", "found", "_", "one", "left", "p"] (defScope s_pivot_tuples) _ _; exact blkOk_by (by decide +kernel))) (fun _ _ _ _ _ => (pg_tup rfl (pgs_cons (pg_name (i := 4) sc_pivot_tuples.nd rfl (by first | exact .inl rfl | exact .inr rfl)) (pgs_cons (pg_name (i := 5) sc_pivot_tuples.nd rfl (by first | exact .inl rfl | exact .inr rfl)) pgs_nil)))) (fun _ _ _ _ _ => pts_nil) (fun _ _ _ _ _ => (pe_op (catK K rfl) (pv 4) (pe_tup (pa_cons (pv 5) pa_nil))))))))), ?_⟩
    refine ⟨by show 0 ≤ sizeLine; decide, fun t0 nt0 => ?_⟩
    refine ⟨_, rfl, by show 2 ≤ sizeLine; decide, fun t1 nt1 => ?_⟩
    refine ⟨by show 1 ≤ sizeLine; decide, fun D0 hD0 => ?_⟩
    have s0 := (same_upd (o := .tup []) nt0).trans ((same_upd (o := .tup [V.ref t0, V.int (i : Int)]) nt1).trans (same_upd (o := .lst [V.ref t1]) hD0))
    refine ⟨_, rfl, _, _, rfl, rfl, ((n : Int) - 1), rfl, by omega, by omega, ?_⟩
    rw [show (((n : Int) - 1)).toNat = n - 1 by omega]
    refine for_it walk_range (fun j σ H3 => ∃ (d : Addr) (l : List V) (y3 y4 y5 y6 : Option V), σ = [some (.int (n : Int)), some (.int (i : Int)), some (.ref d), y3, y4, y5, y6] ∧ Same H H3 ∧ H3 d = some (.lst l) ∧ Paired (PairV K H3) l (ptN j i)) ⟨D0, [.ref t1], none, none, none, none, rfl, s0, upd_same, ?_⟩ (fun _ _ _ _ _ => trivial) ?_ ?_
    · refine .cons ⟨t1, t0, rfl, .inl (.inl ((same_upd hD0) _ _ upd_same)), .inl (.inl ?_)⟩ .nil
      exact ((same_upd nt1).trans (same_upd hD0)) _ _ upd_same
    · rintro j x σ H3 H3' hj ⟨d, l, y3, y4, y5, y6, rfl, s3, hd, hp⟩ ⟨rfl, rfl⟩
      obtain ⟨b1, b2⟩ := okPt_of (k := j) hi1 hi2 (by omega)
      obtain ⟨c1, c2⟩ := okPt_of (k := j + 1) hi1 hi2 (by omega)
      have hl := Paired.length hp
      refine ⟨_, rfl, d, rfl, ⟨_, .inl (.inl hd)⟩, fun D hD => ?_⟩
      refine lc2_flat (walk_list (xs := l)) (ptN j i) (fun q => (divsN q.2).map fun dd => (q.1 ++ [dd], q.2 / dd)) (fun Ha v q => PairV K Ha v q) hl (Nat.lt_of_le_of_lt c1 (by rw [sizeLine_eq]; decide)) hD (fun H4 s4 => .inl (.inl (s4 _ _ hd))) (fun v b Ha Hb acc e o h => PairV.off e o h) gm_pair gm_name ?_ ?_
      · rintro ix x H4 H4' acc R ⟨ps, left⟩ ea s4 eD ⟨rfl, ex⟩ k
        obtain ⟨q0, eq0, a, b, rfl, ha, hb⟩ := Paired.getR (L2.Paired.mapP hp fun _ _ h => PairV.same s4 h) ex
        rw [ea] at eq0
        cases eq0
        obtain ⟨g1, g2, g3⟩ := b2 _ (List.mem_of_getElem? ea)
        dsimp only at g1 g2 g3 ha hb
        refine ⟨a, _, rfl, ha, rfl, _, _, rfl, _, _, rfl, rfl, rfl, ?_⟩
        refine ⟨_, rfl, left, rfl, g1, g2, fun v H5 s5 hv => ?_⟩
        obtain ⟨tv, rfl, htv⟩ := hv
        refine ⟨tv, rfl, ⟨_, htv⟩, ?_⟩
        refine k _ _ _ _ _ _ (walk_tup (xs := (cI (divsN left)).map V.int)) (by rw [List.length_map, cI_len, List.length_map]) s5 (fun H6 acc6 e6 o6 => sqT_off e6 o6 htv) ?_
        rintro jx y H6 H6' acc6 Ko bq eb s6 e4 o6 eD6 ⟨rfl, ey⟩ kk
        obtain ⟨z, ez, rfl⟩ := ints_get ey
        rw [List.getElem?_map] at eb
        unfold cI at ez
        rw [List.getElem?_map] at ez
        cases ed : (divsN left)[jx]? with
        | none => rw [ed] at eb; cases eb
        | some dd =>
          rw [ed] at eb ez
          have e1 : (ps ++ [dd], left / dd) = bq := Option.some.inj eb
          have e2 : (dd : Int) = z := Option.some.inj ez
          subst e1 e2
          have hdd := divs_pos g2 (List.mem_of_getElem? ed)
          have hb6 : SqT K H6' b ((cI ps).map V.int) := sqT_off e4 o6 (Same.seqT s5 hb)
          refine ⟨rfl, ?_⟩
          refine ⟨_, rfl, _, rfl, by show 1 ≤ sizeLine; decide, fun tz ntz => ?_⟩
          refine catA (Same.seqT (same_upd ntz) hb6) (.inl (.inl upd_same)) (by rw [List.length_map, cI_len]; show ps.length + 1 ≤ 1000; omega) fun pc H7 s7 h7 => ?_
          refine ⟨_, rfl, _, rfl, _, _, rfl, rfl, by show (dd : Int) ≠ 0; omega, by show 2 ≤ sizeLine; decide, fun tt ntt => ?_⟩
          have ef : ((left : Int)).fdiv (dd : Int) = ((left / dd : Nat) : Int) := by rw [Int.fdiv_eq_ediv_of_nonneg _ (by omega)]; rfl
          refine kk _ _ ((same_upd ntz).trans (s7.trans (same_upd ntt))) ⟨tt, pc, rfl, .inl (.inl ?_), Same.seqT (same_upd ntt) ?_⟩
          · rw [upd_same]
            show some (HO.tup [V.ref pc, V.int (((left : Int)).fdiv (dd : Int))]) = some (HO.tup [V.ref pc, V.int ((left / dd : Nat) : Int)])
            rw [ef]
          · rw [cI_app, List.map_append]
            exact h7
      · intro H4 l' s4 eD hpl
        exact ⟨D, l', _, _, _, _, rfl, s3.trans s4, eD, hpl⟩
    · rintro σ H3 ⟨d, l, y3, y4, y5, y6, rfl, s3, hd, hp⟩
      obtain ⟨b1, b2⟩ := okPt_of (k := n - 1) hi1 hi2 (by omega)
      have hl := Paired.length hp
      refine ⟨_, rfl, d, rfl, ⟨_, .inl (.inl hd)⟩, fun D hD => ?_⟩
      refine lc_all (walk_list (xs := l)) hD (by omega) (fun H4 s4 => .inl (.inl (s4 _ _ hd))) (fun ix v H4 => ∃ q, (pivN n i)[ix]? = some q ∧ TRow K H4 v (cI q)) (fun ix v Ha Hb acc e o ⟨q, eq, h⟩ => ⟨q, eq, TRow.off e o h⟩) ?_ gm_pair ?_
      · rintro ix x H4 H4' acc Ko hix s4 eD ⟨rfl, ex⟩ k
        obtain ⟨⟨ps, left⟩, eq0, a, b, rfl, ha, hb⟩ := Paired.getR (L2.Paired.mapP hp fun _ _ h => PairV.same s4 h) ex
        obtain ⟨g1, g2, g3⟩ := b2 _ (List.mem_of_getElem? eq0)
        dsimp only at g1 g2 g3 ha hb
        refine ⟨a, _, rfl, ha, rfl, _, _, rfl, _, _, rfl, rfl, rfl, ?_⟩
        refine ⟨_, rfl, _, rfl, by show 1 ≤ sizeLine; decide, fun tz ntz => ?_⟩
        refine catA (Same.seqT (same_upd ntz) hb) (.inl (.inl upd_same)) (by rw [List.length_map, cI_len]; show ps.length + 1 ≤ 1000; omega) fun pc H7 s7 h7 => ?_
        refine k _ _ ((same_upd ntz).trans s7) ⟨ps ++ [left], ?_, pc, rfl, by rw [cI_app, List.map_append]; exact h7⟩
        unfold pivN
        rw [List.getElem?_map, eq0]
        rfl
      · intro H4 l' s4 eD hpl
        have := paired_at (F := fun v q => TRow K H4 v (cI q)) (by unfold pivN; rw [List.length_map, hl]) hpl
        exact q D l' H4 (s3.trans s4) eD this
theorem cal_pivot_tuples (T : Top K mg) (hN : base.NoSeer) (hT : P.given.tree = none) : Cal P w K mg base 45 "pivot_tuples" (sp_pivot_tuples K) [] := ⟨⟨_, _, _, [], ok_pivot_tuples T hN hT, T.g_pivot_tuples, T.F_pivot_tuples.kp, T.b_pivot_tuples, .nil⟩⟩

end
end K44
namespace K44
open PySem PySem.Spec PyProof.Rows L2 Gm
open C8 (Cal Met Mak pe_c pe_mt pe_mt0 pe_mk)
section
variable {P : Program} {w : World} {K : PySem.W.Frag} {mg : Str → Option Value} {base : Heap}
/-! ### forms_with -/
def formsP (piv : List Nat) (k : Nat) : List (List (List Int)) := (List.range k).foldl (fun f k => f.flatMap fun one => (rowsF piv k).map fun r => one ++ [r]) [[]]
def rowsP (piv : List Nat) (k t : Nat) : List (List Int) := ((piv.drop (k + 1)).take t).foldl longR [headR k (piv.getD k 0)]
theorem formsP_succ (piv : List Nat) (k : Nat) : formsP piv (k + 1) = (formsP piv k).flatMap fun one => (rowsF piv k).map fun r => one ++ [r] := by
  unfold formsP
  rw [List.range_succ, List.foldl_append]
  rfl
theorem rowsP_succ {piv : List Nat} {k t p : Nat} (h : (piv.drop (k + 1))[t]? = some p) : rowsP piv k (t + 1) = (rowsP piv k t).flatMap fun r => (List.range p).map fun (x : Nat) => r ++ [(x : Int)] := by
  unfold rowsP
  rw [List.take_succ, h, List.foldl_append]
  rfl
theorem rowsP_full (piv : List Nat) (k : Nat) : rowsP piv k (piv.drop (k + 1)).length = rowsF piv k := by
  unfold rowsP rowsF
  rw [List.take_length]
def okF (piv : List Nat) : Bool := decide (piv.length ≤ 4) && piv.all (fun p => decide (p ≤ 60)) && (List.range 5).all (fun k => decide ((formsP piv k).length ≤ 900) && (formsP piv k).all fun m => decide (m.length ≤ 10)) && (List.range 5).all fun k => (List.range 5).all fun t => decide ((rowsP piv k t).length ≤ 900) && (rowsP piv k t).all fun r => decide (r.length ≤ 10)
structure OkF (piv : List Nat) : Prop where
  len : piv.length ≤ 4
  le : ∀ p ∈ piv, p ≤ 60
  forms : ∀ k, k ≤ 4 → (formsP piv k).length ≤ 900 ∧ ∀ m ∈ formsP piv k, m.length ≤ 10
  rows : ∀ k t, k ≤ 4 → t ≤ 4 → (rowsP piv k t).length ≤ 900 ∧ ∀ r ∈ rowsP piv k t, r.length ≤ 10
theorem okF_of {piv : List Nat} (h : okF piv = true) : OkF piv := by
  unfold okF at h
  simp only [Bool.and_eq_true, decide_eq_true_eq, List.all_eq_true, List.mem_range] at h
  obtain ⟨⟨⟨h1, h2⟩, h3⟩, h4⟩ := h
  exact ⟨h1, h2, fun k hk => h3 k (by omega), fun k t hk ht => h4 k (by omega) t (by omega)⟩
theorem slD {K : PySem.W.Frag} {H : Hp} {a : Addr} {xs : List V} {i : Int} {j : Nat} {Q : VK} (h : SqT K H a xs) (hi : i = (j : Int)) (q : ∀ p H', Same H H' → SqT K H' p (xs.drop j) → Q (.ref p) H') : rSlA K (.ref a) (some i) none H Q := by subst hi; exact slA_drop h j q
theorem noSlD {K : PySem.W.Frag} {σ : L2.St} {H : Hp} {a : Addr} {xs : List V} {i : Int} {j : Nat} {Q : VK} (h : SqT K H a xs) (hi : i = (j : Int)) (q : ∀ p H', Same H H' → SqT K H' p (xs.drop j) → Q (.ref p) H') : tNoPart σ H fun u H3 => rSlA K (.ref a) (some i) u H3 Q := slD h hi q
theorem repZ {K : PySem.W.Frag} {H : Hp} {l : Addr} {k : Int} {j : Nat} {Q : VK} (h : SqT K H l [V.int 0]) (hk : k = (j : Int)) (hj : j ≤ 1000) (q : ∀ p H', Same H H' → SqT K H' p ((List.replicate j (0 : Int)).map V.int) → Q (.ref p) H') : rRepA K (.ref l) (.int k) H Q := by
  subst hk
  refine ⟨l, (j : Int), [V.int 0], rfl, rfl, h, by simp, by omega, by omega, by simp, fun e => ?_, fun e p np => ?_⟩
  · have : j = 1 := by omega
    subst this
    exact q _ _ (fun _ _ h => h) h
  · have e2 : (List.replicate ((j : Int)).toNat [V.int 0]).flatten = (List.replicate j (0 : Int)).map V.int := by
      rw [Int.toNat_natCast]
      clear e q hj
      induction j with
      | zero => rfl
      | succ j ih => rw [List.replicate_succ, List.flatten_cons, ih, List.replicate_succ]; rfl
    rw [e2]
    exact q _ _ (same_upd np) (.inl (.inl upd_same))
theorem same_none {H H' : Hp} {a : Addr} (e : Same H H') (h : H' a = none) : H a = none := by
  cases x : H a with
  | none => rfl
  | some o => rw [e _ _ x] at h; cases h
def sp_forms_with (K : PySem.W.Frag) : Sp := fun vs H Q _ => ∃ (v : V) (piv : List Nat), vs = [v] ∧ TRow K H v (cI piv) ∧ OkF piv ∧ ∀ r l H', Same H H' → H r = none → H' r = some (.lst l) → Paired (TRows K H') l (formsN piv) → Q (.ref r) H'
theorem ok_forms_with (T : Top K mg) (hN : base.NoSeer) (hT : P.given.tree = none) : FnOk P w K mg base CX0 1 T.a_forms_with T.d_forms_with ["pivots"] (sp_forms_with K) := by
  refine T.F_forms_with.ok sc_forms_with (fun vs H Q E h => ?_) (fun cdv A outer s H vs Q E hr h => ?_)
  · obtain ⟨v, piv, rfl, _⟩ := h
    rfl
  · obtain ⟨v, piv, rfl, hv, O, q⟩ := h
    obtain ⟨tp, rfl, htp⟩ := hv
    refine ⟨_, (pss_cons (ps_set (i := 1) sc_forms_with.nd rfl (by first | exact .inl rfl | exact .inr rfl) (pe_lst (pa_cons (pe_tup pa_nil) pa_nil)))
      (pss_cons (ps_for PassesOwn.never rfl (pi_range1 (by rfl) T.z_range (pa_cons (pe_callB (lenS K rfl) (by rfl) T.z_len (by decide +kernel) (pa_cons (pv 0) pa_nil)) pa_nil)) (pg_name (i := 2) sc_forms_with.nd rfl (by first | exact .inl rfl | exact .inr rfl))
      (pss_cons (ps_set (i := 3) sc_forms_with.nd rfl (by first | exact .inl rfl | exact .inr rfl) (pe_lst (pa_cons (pe_op (catK K rfl) (pe_op (repAK K rfl) (pe_tup (pa_cons pe_int pa_nil)) (pv 2)) (pe_tup (pa_cons (pe_ix (ixT K rfl) (pv 0) (pv 2) (fun _ _ => rfl)) pa_nil))) pa_nil)))
      (pss_cons (ps_for PassesOwn.never rfl (piT K rfl (pe_slice (slTK K rfl) (pv 0) (po_some (pe_op op_add (pv 2) pe_int)) po_none)) (pg_name (i := 4) sc_forms_with.nd rfl (by first | exact .inl rfl | exact .inr rfl))
      (pss_one (ps_set (i := 3) sc_forms_with.nd rfl (by first | exact .inl rfl | exact .inr rfl) (pe_lc2 (own := [("row", 5), ("item", 6)]) (vs1 := [6]) (g := (gName 5)) (g1 := (gName 6)) (by rfl) sc_forms_with.nd (piL K rfl (pv 3)) (by show BlkOk ["pivots", "found", "k", "rows", "pivot", "row", "item", "one"] (defScope s_forms_with) _ _; exact blkOk_by (by decide +kernel)) (by decide) (fun _ _ _ _ _ => (pg_name (i := 5) sc_forms_with.nd rfl (by first | exact .inl rfl | exact .inr rfl))) (fun _ _ _ _ _ => pts_nil) (fun _ _ _ _ _ => (pi_range1 (by rfl) T.z_range (pa_cons (pv 4) pa_nil))) (fun _ _ _ _ _ => (pg_name (i := 6) sc_forms_with.nd rfl (by first | exact .inl rfl | exact .inr rfl))) (fun _ _ _ _ _ => pts_nil) (fun _ _ _ _ _ => (pe_op (catK K rfl) (pv 5) (pe_tup (pa_cons (pv 6) pa_nil))))))))
      (pss_one (ps_setLc2 (i := 1) (own := [("one", 7), ("row", 5)]) (vs1 := [5]) (g := (gName 7)) (g1 := (gName 5)) (by rfl) sc_forms_with.nd rfl rfl (sw_true rfl rfl rfl (by decide +kernel)) (piL K rfl (pv 1)) (by show BlkOk ["pivots", "found", "k", "rows", "pivot", "row", "item", "one"] (defScope s_forms_with) _ _; exact blkOk_by (by decide +kernel)) (by decide) (fun _ _ _ _ _ => (pg_name (i := 7) sc_forms_with.nd rfl (by first | exact .inl rfl | exact .inr rfl))) (fun _ _ _ _ _ => pts_nil) (fun _ _ _ _ _ => (piL K rfl (pv 3))) (fun _ _ _ _ _ => (pg_name (i := 5) sc_forms_with.nd rfl (by first | exact .inl rfl | exact .inr rfl))) (fun _ _ _ _ _ => pts_nil) (fun _ _ _ _ _ => (pe_op (catK K rfl) (pv 7) (pe_tup (pa_cons (pv 5) pa_nil)))))))))
      (pss_one (ps_ret (pv 1))))), ?_⟩
    refine ⟨by show 0 ≤ sizeLine; decide, fun t0 nt0 => ?_⟩
    refine ⟨by show 1 ≤ sizeLine; decide, fun D0 hD0 => ?_⟩
    have s0 := (same_upd (o := .tup []) nt0).trans (same_upd (o := .lst [V.ref t0]) hD0)
    refine ⟨_, rfl, tp, _, rfl, .inr (Same.seqT s0 htp), (piv.length : Int), by rw [List.length_map, cI_len], by omega, by have := O.len; omega, ?_⟩
    rw [show ((piv.length : Int)).toNat = piv.length from Int.toNat_natCast _]
    refine for_it walk_range (fun j σ H3 => ∃ (d : Addr) (l : List V) (y2 y3 y4 y5 y6 y7 : Option V), σ = [some (.ref tp), some (.ref d), y2, y3, y4, y5, y6, y7] ∧ Same H H3 ∧ H d = none ∧ H3 d = some (.lst l) ∧ Paired (TRows K H3) l (formsP piv j)) ⟨D0, [.ref t0], none, none, none, none, none, none, rfl, s0, same_none (same_upd nt0) hD0, upd_same, .cons ⟨t0, [], rfl, .inl (.inl ((same_upd hD0) _ _ upd_same)), .nil⟩ .nil⟩ (fun _ _ _ _ _ => trivial) ?_ ?_
    · rintro j x σ H3 H3' hj ⟨d, l, y2, y3, y4, y5, y6, y7, rfl, s3, nd, hd, hp⟩ ⟨rfl, rfl⟩
      have hl := Paired.length hp
      have ol := O.len
      have et : (cI piv)[j]? = some ((piv.getD j 0 : Nat) : Int) := by
        unfold cI
        rw [List.getElem?_map, List.getElem?_eq_getElem hj, List.getD_eq_getElem?_getD, List.getElem?_eq_getElem hj]
        rfl
      refine ⟨by show 1 ≤ sizeLine; decide, fun tz ntz => ?_⟩
      have i0 : (0 : Int) + ((j : Nat) : Int) = (j : Int) := by omega
      refine ⟨_, rfl, repZ (.inl (.inl upd_same)) i0 (by omega) fun pz H4 s4 hz => ?_⟩
      have s34 := s3.trans ((same_upd (o := .tup [V.int 0]) ntz).trans s4)
      refine ⟨_, rfl, _, rfl, tp, _, _, _, rfl, rfl, Same.seqT s34 htp, at_of i0 (ints_at et), by show 1 ≤ sizeLine; decide, fun tq ntq => ?_⟩
      refine catA (Same.seqT (same_upd ntq) hz) (.inl (.inl upd_same)) (by rw [List.length_map, List.length_replicate]; show j + 1 ≤ 1000; omega) fun pr H5 s5 h5 => ?_
      refine ⟨by show 1 ≤ sizeLine; decide, fun E0 nE0 => ?_⟩
      have s35 := s34.trans ((same_upd (o := .tup [V.int ((piv.getD j 0 : Nat) : Int)]) ntq).trans (s5.trans (same_upd (o := .lst [V.ref pr]) nE0)))
      refine ⟨_, rfl, _, rfl, _, _, rfl, rfl, (0 : Int) + (j : Int) + 1, rfl, ?_⟩
      refine noSlD (j := j + 1) (Same.seqT s35 htp) (by show (0 : Int) + (j : Int) + 1 = ((j + 1 : Nat) : Int); omega) fun ts H6 s6 hts => ?_
      refine ⟨ts, rfl, ⟨_, hts⟩, ?_⟩
      have lts : ((List.map V.int (cI piv)).drop (j + 1)).length = (piv.drop (j + 1)).length := by rw [List.length_drop, List.length_drop, List.length_map, cI_len]
      have s36 := s35.trans s6
      have hd6 : H6 d = some (.lst l) := s6 _ _ ((same_upd nE0) _ _ (s5 _ _ ((same_upd ntq) _ _ (s4 _ _ ((same_upd ntz) _ _ hd)))))
      have hp6 : Paired (TRows K H6) l (formsP piv j) := L2.Paired.mapP hp fun _ _ h => TRows.same ((same_upd ntz).trans (s4.trans ((same_upd ntq).trans (s5.trans ((same_upd nE0).trans s6))))) h
      refine for_it (walk_tup (xs := (List.map V.int (cI piv)).drop (j + 1))) (fun t σ H7 => ∃ (e : Addr) (lr : List V) (y4 y5 y6 : Option V), σ = [some (.ref tp), some (.ref d), some (.int (0 + (j : Int))), some (.ref e), y4, y5, y6, y7] ∧ Same H6 H7 ∧ H7 e = some (.lst lr) ∧ Paired (TRow K H7) lr (rowsP piv j t)) ⟨E0, [.ref pr], _, _, _, rfl, fun _ _ h => h, s6 _ _ upd_same, ?_⟩ (fun t σ H7 _ ⟨_, _, _, _, _, _, s7, _⟩ => Same.seqT s7 hts) ?_ ?_
      · refine .cons ⟨pr, rfl, ?_⟩ .nil
        have := Same.seqT ((same_upd (o := .lst [V.ref pr]) nE0).trans s6) h5
        have e : (List.replicate j (0 : Int)).map V.int ++ [V.int ((piv.getD j 0 : Nat) : Int)] = (headR j (piv.getD j 0)).map V.int := by unfold headR; rw [List.map_append]; rfl
        rw [← e]
        exact this
      · rintro t x σ H7 H7' ht ⟨e, lr, y4, y5, y6, rfl, s7, he, hpr⟩ ⟨rfl, ex⟩
        have ht' : t < (piv.drop (j + 1)).length := by omega
        have ep := List.getElem?_eq_getElem ht'
        obtain ⟨p, hpv⟩ : ∃ p, (piv.drop (j + 1))[t]? = some p := ⟨_, ep⟩
        have ex2 : x = .int (p : Int) := by
          have e0 : (List.map V.int (cI piv)).drop (j + 1) = (piv.drop (j + 1)).map fun (z : Nat) => V.int (z : Int) := by
            unfold cI
            rw [List.map_map, ← List.map_drop]
            rfl
          rw [e0, List.getElem?_map, hpv] at ex
          exact (Option.some.inj ex).symm
        subst ex2
        have hp60 : p ≤ 60 := O.le p (List.mem_of_mem_drop (List.mem_of_getElem? hpv))
        have hll : (piv.drop (j + 1)).length ≤ 3 := by rw [List.length_drop]; omega
        obtain ⟨b1, b2⟩ := O.rows j t (by omega) (by omega)
        obtain ⟨c1, c2⟩ := O.rows j (t + 1) (by omega) (by omega)
        rw [rowsP_succ hpv] at c1
        have hll2 := Paired.length hpr
        refine ⟨_, rfl, e, rfl, ⟨_, .inl (.inl he)⟩, fun D hD => ?_⟩
        refine lc2_flat (walk_list (xs := lr)) (rowsP piv j t) (fun r => (List.range p).map fun (z : Nat) => r ++ [(z : Int)]) (fun Ha v r => TRow K Ha v r) hll2 (Nat.lt_of_le_of_lt c1 (by rw [sizeLine_eq]; decide)) hD (fun H8 s8 => .inl (.inl (s8 _ _ he))) (fun v b Ha Hb acc e o h => TRow.off e o h) gm_name gm_name ?_ ?_
        · rintro ix x H8 H8' acc R r ea s8 eD ⟨rfl, ex⟩ k
          obtain ⟨r0, eq0, hr0⟩ := Paired.getR (L2.Paired.mapP hpr fun _ _ h => TRow.same s8 h) ex
          rw [ea] at eq0
          cases eq0
          have hrl := b2 _ (List.mem_of_getElem? ea)
          obtain ⟨ar, rfl, har⟩ := hr0
          refine ⟨rfl, _, rfl, (p : Int), rfl, by omega, by omega, ?_⟩
          rw [show ((p : Int)).toNat = p from Int.toNat_natCast _]
          refine k _ _ _ _ _ _ (walk_range (lo := 0) (n := p)) (by rw [List.length_map, List.length_range]) (fun _ _ h => h) (fun _ _ _ _ => trivial) ?_
          rintro jx y H9 H9' acc9 Ko bq eb s9 e4 o9 eD9 ⟨rfl, ey⟩ kk
          have hjx : jx < p := by
            have := (List.getElem?_eq_some_iff.mp eb).1
            rwa [List.length_map, List.length_range] at this
          rw [List.getElem?_map, List.getElem?_range hjx] at eb
          have e1 : r ++ [(jx : Int)] = bq := Option.some.inj eb
          subst e1
          have har9 : SqT K H9' ar (r.map V.int) := sqT_off e4 o9 har
          refine ⟨rfl, ?_⟩
          refine ⟨_, rfl, _, rfl, by show 1 ≤ sizeLine; decide, fun tz ntz => ?_⟩
          refine catA (Same.seqT (same_upd ntz) har9) (.inl (.inl upd_same)) (by rw [List.length_map]; show r.length + 1 ≤ 1000; omega) fun pc Ha sa ha => ?_
          refine kk _ _ ((same_upd ntz).trans sa) ⟨pc, rfl, ?_⟩
          rw [List.map_append]
          have ey2 : y = V.int (jx : Int) := by
            rw [ey]
            show V.int (0 + (jx : Int)) = _
            rw [Int.zero_add]
          rw [ey2] at ha
          exact ha
        · intro H8 l' s8 eD hpl
          exact ⟨D, l', _, _, _, rfl, s7.trans s8, eD, by rw [rowsP_succ hpv]; exact hpl⟩
      · rintro σ H7 ⟨e, lr, y4, y5, y6, rfl, s7, he, hpr⟩
        rw [lts, rowsP_full] at hpr
        obtain ⟨b1, b2⟩ := O.forms j (by omega)
        obtain ⟨c1, c2⟩ := O.forms (j + 1) (by omega)
        rw [formsP_succ] at c1
        have hd7 : H7 d = some (.lst l) := s7 _ _ hd6
        have hp7 : Paired (TRows K H7) l (formsP piv j) := L2.Paired.mapP hp6 fun _ _ h => TRows.same s7 h
        refine ⟨_, rfl, d, rfl, ⟨_, .inl (.inl hd7)⟩, fun D hD => ?_⟩
        have hlr := Paired.length hpr
        refine lc2_flat (walk_list (xs := l)) (formsP piv j) (fun one => (rowsF piv j).map fun r => one ++ [r]) (fun Ha v r => TRows K Ha v r) hl (Nat.lt_of_le_of_lt c1 (by rw [sizeLine_eq]; decide)) hD (fun H8 s8 => .inl (.inl (s8 _ _ hd7))) (fun v b Ha Hb acc e o h => TRows.off e o h) gm_name gm_name ?_ ?_
        · rintro ix x H8 H8' acc R one ea s8 eD ⟨rfl, ex⟩ k
          obtain ⟨r0, eq0, hr0⟩ := Paired.getR (L2.Paired.mapP hp7 fun _ _ h => TRows.same s8 h) ex
          rw [ea] at eq0
          cases eq0
          have hol := b2 _ (List.mem_of_getElem? ea)
          obtain ⟨ao, wo, rfl, hao, hpo⟩ := hr0
          have hlo := Paired.length hpo
          have he8 : H8' e = some (.lst lr) := s8 _ _ he
          have hDe : D ≠ e := fun z => by subst z; rw [hD] at he; cases he
          refine ⟨rfl, _, rfl, e, rfl, ⟨_, .inl (.inl he8)⟩, ?_⟩
          refine k _ _ _ _ _ _ (walk_list (xs := lr)) (by rw [List.length_map, hlr]) (fun _ _ h => h) (fun H9 acc9 e9 o9 => .inl (.inl (o9 _ _ (Ne.symm hDe) he8))) ?_
          rintro jx y H9 H9' acc9 Ko bq eb s9 e4 o9 eD9 ⟨rfl, ey⟩ kk
          rw [List.getElem?_map] at eb
          obtain ⟨rr, er, hrr⟩ := Paired.getR (L2.Paired.mapP hpr fun _ _ h => TRow.off e4 o9 (TRow.same s8 h)) ey
          rw [er] at eb
          have e1 : one ++ [rr] = bq := Option.some.inj eb
          subst e1
          refine ⟨rfl, ?_⟩
          have hao9 : SqT K H9' ao wo := sqT_off e4 o9 hao
          refine ⟨_, rfl, _, rfl, by show 1 ≤ sizeLine; decide, fun tz ntz => ?_⟩
          refine catA (Same.seqT (same_upd ntz) hao9) (.inl (.inl upd_same)) (by show wo.length + 1 ≤ 1000; omega) fun pc Ha sa ha => ?_
          refine kk _ _ ((same_upd ntz).trans sa) ⟨pc, _, rfl, ha, ?_⟩
          exact Gm.paired_snoc (L2.Paired.mapP hpo fun _ _ h => TRow.same ((same_upd ntz).trans sa) (TRow.off e4 o9 h)) (TRow.same ((same_upd ntz).trans sa) hrr)
        · intro H8 l' s8 eD hpl
          exact ⟨D, l', _, _, _, _, _, _, rfl, s36.trans (s7.trans s8), same_none (s36.trans s7) hD, eD, by rw [formsP_succ]; exact hpl⟩
    · rintro σ H3 ⟨d, l, y2, y3, y4, y5, y6, y7, rfl, s3, nd, hd, hp⟩
      exact ⟨_, rfl, q d l H3 s3 nd hd hp⟩
theorem cal_forms_with (T : Top K mg) (hN : base.NoSeer) (hT : P.given.tree = none) : Cal P w K mg base 1 "forms_with" (sp_forms_with K) [] := ⟨⟨_, _, _, [], ok_forms_with T hN hT, T.g_forms_with, T.F_forms_with.kp, T.b_forms_with, .nil⟩⟩

end
end K44
namespace K44
open PySem PySem.Spec PyProof.Rows L2 Gm
open C8 (Cal Met Mak pe_c pe_mt pe_mt0 pe_mk)
section
variable {P : Program} {w : World} {K : PySem.W.Frag} {mg : Str → Option Value} {base : Heap}
/-! ### sublattices -/
theorem mak_Grid_N (T : Top K mg) (hN : base.NoSeer) (hT : P.given.tree = none) : Mak P w K mg base 3 "Grid" T.C_Grid (sp_Grid_init_N K T.C_Grid) [.non] := by
  obtain ⟨ds2, vN2, bN2⟩ := T.F_Grid_init.binds1 (ps := ["self", "rows", "width"]) 2 0 (by simp) rfl fun _ _ _ _ _ _ _ us its hl hi => match us, hl, its, hi with | [_, _], _, [_], _ => ⟨_, rfl, rfl⟩
  exact ⟨⟨_, _, _, _, T.mk_Grid, ok_Grid_init_N T hN hT, T.g_Grid, bN2, vN2⟩⟩
theorem make_gridN {K : PySem.W.Frag} {C x dx : Addr} {H1 : Hp} {v : V} {m : List (List Int)} {w : Nat} {Q : VK} {E : XK} (nx : H1 x = none) (nd : H1 dx = none) (hm : IRows K H1 v m) (h0 : 0 < m.length) (hl : m.length ≤ 1000) (hw : w ≤ 1000) (hrw : ∀ r ∈ m, r.length = w) (q : ∀ H', Same H1 H' → IsGrid K C H' (.ref x) m w → Q .non H') :
    sp_Grid_init_N K C [.ref x, v, .non] (upd (upd H1 dx (.own x)) x (.ins C dx [])) Q E := by
  have s0 : Same H1 (upd (upd H1 dx (.own x)) x (.ins C dx [])) := fun b o e => by
    rw [upd_ne (ne_of_none e nx), upd_ne (ne_of_none e nd)]
    exact e
  refine ⟨x, dx, v, m, w, rfl, upd_same, hm.same s0, h0, hl, hw, hrw, fun t H' o ho ht => ?_⟩
  exact q _ (fun b u e => o _ _ (ne_of_none e nx) (s0 _ _ e)) ⟨⟨x, dx, t, rfl, ho, ht⟩, hrw⟩
def okS (n i : Nat) : Bool := (pivN n i).all okF && decide ((foundN n i).length ≤ 900) && decide ((pivN n i).length ≤ 900) && (foundN n i).all fun m => decide (m.length = n) && m.all fun r => decide (r.length = n)
theorem okS1 : ∀ i < 61, 0 < i → okS 1 i = true := by decide +kernel
theorem okS2 : ∀ i < 61, 0 < i → okS 2 i = true := by decide +kernel
theorem okS3 : ∀ i < 13, 0 < i → okS 3 i = true := by decide +kernel
theorem okS4 : ∀ i < 5, 0 < i → okS 4 i = true := by decide +kernel
structure OkS (n i : Nat) : Prop where
  piv : ∀ p ∈ pivN n i, OkF p
  len : (foundN n i).length ≤ 900
  pl : (pivN n i).length ≤ 900
  sz : ∀ m ∈ foundN n i, m.length = n ∧ ∀ r ∈ m, r.length = n
theorem okS_of {n i : Nat} (h : SizeOk n i) : OkS n i := by
  have h : okS n i = true := by
    obtain ⟨h1, ⟨rfl, h2⟩ | ⟨rfl, h2⟩ | ⟨rfl, h2⟩ | ⟨rfl, h2⟩⟩ := h
    · exact okS1 i (by omega) h1
    · exact okS2 i (by omega) h1
    · exact okS3 i (by omega) h1
    · exact okS4 i (by omega) h1
  unfold okS at h
  simp only [Bool.and_eq_true, decide_eq_true_eq, List.all_eq_true] at h
  obtain ⟨⟨⟨h1, h2⟩, h3⟩, h4⟩ := h
  exact ⟨fun p hp => okF_of (h1 p hp), h2, h3, fun m hm => ⟨(h4 m hm).1, fun r hr => (h4 m hm).2 r hr⟩⟩
theorem SizeOk.n1 {n i : Nat} (h : SizeOk n i) : 1 ≤ n ∧ n ≤ 4 ∧ 1 ≤ i ∧ i ≤ 60 := by
  obtain ⟨h1, h2⟩ := h
  omega
theorem grid_off {K : PySem.W.Frag} {C : Addr} {H H' : Hp} {v : V} {m : List (List Int)} {w : Nat} {D : Addr} {acc : List V} (hD : H D = some (.lst acc)) (o : Off D H H') (h : IsGrid K C H v m w) : IsGrid K C H' v m w := by
  obtain ⟨⟨q, dx, t, e, ho, ht⟩, hw⟩ := h
  exact ⟨⟨q, dx, t, e, o _ _ (ne_of ho hD (by intro z; cases z)) ho, TRows.off hD o ht⟩, hw⟩
def sp_check_number : Sp := fun vs H Q _ => ∃ (v m : Int), vs = [.int v, .int m] ∧ 1 ≤ v ∧ v ≤ m ∧ Q .non H
theorem ok_check_number (T : Top K mg) (hN : base.NoSeer) (hT : P.given.tree = none) : FnOk P w K mg base CX0 3 T.a_check_number T.d_check_number ["value", "most"] sp_check_number := by
  refine T.F_check_number.ok sc_check_number (fun vs H Q E h => ?_) (fun cdv A outer s H vs Q E hr h => ?_)
  · obtain ⟨v, m, rfl, _⟩ := h
    rfl
  · obtain ⟨v, m, rfl, h1, h2, q⟩ := h
    refine ⟨_, (pss_one (ps_if (PW.pt (pw_or (pt_not (pt_val (pe_c (cal_is_integer T hN hT) hr (by decide) (by rfl) (pa_cons (pv 0) pa_nil)))) (pw_or1 (pt_not (pt_chain op_le op_le pe_int (pv 0) (pv 1))))))
      (pss_one ps_never)
      pss_nil)), ?_⟩
    refine ⟨_, rfl, v, rfl, true, rfl, ?_⟩
    refine iteF ?_
    refine ⟨_, rfl, _, _, rfl, rfl, _, rfl, ?_⟩
    rw [decide_eq_true h1]
    refine iteT ?_
    refine ⟨_, rfl, _, _, rfl, rfl, _, rfl, ?_⟩
    rw [decide_eq_true h2]
    exact iteF q
theorem cal_check_number (T : Top K mg) (hN : base.NoSeer) (hT : P.given.tree = none) : Cal P w K mg base 3 "check_number" sp_check_number [] := ⟨⟨_, _, _, [], ok_check_number T hN hT, T.g_check_number, T.F_check_number.kp, T.b_check_number, .nil⟩⟩
def sp_sublattices (K : PySem.W.Frag) (C : Addr) : Sp := fun vs H Q _ => ∃ (n i : Nat), vs = [.int (n : Int), .int (i : Int)] ∧ SizeOk n i ∧ ∀ r l H', Same H H' → SqT K H' r l → Paired (fun v m => IsGrid K C H' v m n) l (sortM (foundN n i)) → Q (.ref r) H'
theorem ok_sublattices (T : Top K mg) (hN : base.NoSeer) (hT : P.given.tree = none) : FnOk P w K mg base CX0 46 T.a_sublattices T.d_sublattices ["n", "index"] (sp_sublattices K T.C_Grid) := by
  refine T.F_sublattices.ok sc_sublattices (fun vs H Q E h => ?_) (fun cdv A outer s H vs Q E hr h => ?_)
  · obtain ⟨n, i, rfl, _⟩ := h
    rfl
  · obtain ⟨n, i, rfl, hsz, q⟩ := h
    have O := okS_of hsz
    obtain ⟨n1, n4, i1, i60⟩ := hsz.n1
    refine ⟨_, (pss_cons (ps_expr (pe_c (cal_check_number T hN hT) hr (by decide) (by rfl) (pa_cons (pv 0) (pa_cons (pe_glob (v := V.int 4) (by rfl) T.g_MOST_SIZE ⟨_, rfl⟩) pa_nil))))
      (pss_cons (ps_expr (pe_c (cal_check_number T hN hT) hr (by decide) (by rfl) (pa_cons (pv 1) (pa_cons (pe_glob (v := V.int 60) (by rfl) T.g_MOST_INDEX ⟨_, rfl⟩) pa_nil))))
      (pss_cons (ps_setLc2 (i := 2) (own := [("pivots", 3), ("rows", 4)]) (vs1 := [4]) (g := (gName 3)) (g1 := (gName 4)) (by rfl) sc_sublattices.nd rfl rfl (sw_true rfl rfl rfl (by decide +kernel)) (piL K rfl (pe_c (cal_pivot_tuples T hN hT) hr (by decide) (by rfl) (pa_cons (pv 0) (pa_cons (pv 1) pa_nil)))) (by show BlkOk ["n", "index", "found", "pivots", "rows"] (defScope s_sublattices) _ _; exact blkOk_by (by decide +kernel)) (by decide) (fun _ _ _ _ _ => (pg_name (i := 3) sc_sublattices.nd rfl (by first | exact .inl rfl | exact .inr rfl))) (fun _ _ _ _ _ => pts_nil) (fun _ _ _ _ _ => (piL K rfl (pe_c (cal_forms_with T hN hT) hr (by decide) (by rfl) (pa_cons (pv 3) pa_nil)))) (fun _ _ _ _ _ => (pg_name (i := 4) sc_sublattices.nd rfl (by first | exact .inl rfl | exact .inr rfl))) (fun _ _ _ _ _ => pts_nil) (fun _ _ _ _ _ => (pv 4)))
      (pss_one (ps_ret (pe_callTy (tupK K rfl) (by rfl) T.z_tuple (by decide +kernel) (pa_cons (pe_lc (own := [("rows", 4)]) (g := (gName 4)) (by rfl) sc_sublattices.nd (piL K rfl (pe_callB (sortMK K rfl hr) (by rfl) T.z_sorted (by decide +kernel) (pa_cons (pv 2) pa_nil))) ((by show BlkOk ["n", "index", "found", "pivots", "rows"] (defScope s_sublattices) _ _; exact blkOk_by (by decide +kernel))) (fun _ _ _ _ _ => (pg_name (i := 4) sc_sublattices.nd rfl (by first | exact .inl rfl | exact .inr rfl))) (fun _ _ _ _ _ => pts_nil) (fun _ _ _ _ _ => (pe_mk (mak_Grid_N T hN hT) hr (by decide) (by rfl) (pa_cons (pv 4) pa_nil)))) pa_nil))))))), ?_⟩
    refine ⟨_, rfl, (n : Int), 4, rfl, by omega, by omega, ?_⟩
    refine ⟨_, rfl, (i : Int), 60, rfl, by omega, by omega, ?_⟩
    refine ⟨_, rfl, _, rfl, n, i, rfl, n1, n4, i1, i60, fun r lp H1 s1 hr1 hpp => ?_⟩
    refine ⟨r, rfl, ⟨_, .inl (.inl hr1)⟩, fun D hD => ?_⟩
    have hlp := Paired.length hpp
    have olen := O.len
    have opl := O.pl
    refine lc2_flat (walk_list (xs := lp)) (pivN n i) formsN (fun Ha v m => TRows K Ha v m) hlp (Nat.lt_of_le_of_lt olen (by rw [sizeLine_eq]; decide)) hD (fun H8 s8 => .inl (.inl (s8 _ _ hr1))) (fun v b Ha Hb acc e o h => TRows.off e o h) gm_name gm_name ?_ ?_
    · rintro ix x H8 H8' acc R piv ea s8 eD ⟨rfl, ex⟩ k
      obtain ⟨r0, eq0, hr0⟩ := Paired.getR (L2.Paired.mapP hpp fun _ _ h => TRow.same s8 h) ex
      rw [ea] at eq0
      cases eq0
      refine ⟨rfl, ?_⟩
      refine ⟨_, rfl, x, piv, rfl, hr0, O.piv piv (List.mem_of_getElem? ea), fun rf lf H9 s9 nrf hrf hpf => ?_⟩
      refine ⟨rf, rfl, ⟨_, .inl (.inl hrf)⟩, ?_⟩
      have hDr : D ≠ rf := fun z => by subst z; rw [eD] at nrf; cases nrf
      refine k _ _ _ _ _ _ (walk_list (xs := lf)) (Paired.length hpf) s9 (fun Ha acca ea oa => .inl (.inl (oa _ _ (Ne.symm hDr) hrf))) ?_
      rintro jx y Ha Ha' acc9 Ko bq eb sa e4 oa eDa ⟨rfl, ey⟩ kk
      obtain ⟨mm, em, hm⟩ := Paired.getR hpf ey
      rw [em] at eb
      cases eb
      refine ⟨rfl, _, rfl, kk _ _ (fun _ _ h => h) (TRows.off e4 oa hm)⟩
    · intro H2 l2 s2 eD hp2
      refine ⟨_, rfl, D, l2, _, rfl, .inl (.inl eD), hp2, fun m hm => ?_, fun qs ys nqs hys => ?_⟩
      · have := (O.sz m hm).1
        intro z
        subst z
        simp at this
        omega
      refine ⟨qs, rfl, ⟨_, .inl (.inl upd_same)⟩, fun D2 hD2 => ?_⟩
      have sq := same_upd (o := .lst ys) nqs
      have hys2 : Paired (TRows K (upd H2 qs (.lst ys))) ys (sortM (foundN n i)) := L2.Paired.mapP hys fun _ _ h => TRows.same sq h
      have hlen : ys.length = (foundN n i).length := by rw [Paired.length hys, (sortM_perm _).length_eq]; rfl
      refine lc_all (walk_list (xs := ys)) hD2 (by omega) (fun H4 s4 => .inl (.inl (s4 _ _ upd_same))) (fun ix v H4 => ∃ m, (sortM (foundN n i))[ix]? = some m ∧ IsGrid K T.C_Grid H4 v m n) (fun ix v Ha Hb acc e o ⟨m, em, h⟩ => ⟨m, em, grid_off e o h⟩) ?_ gm_name ?_
      · rintro ix x H4 H4' acc Ko hix s4 eD4 ⟨rfl, ex⟩ k
        obtain ⟨m, em, hm⟩ := Paired.getR (L2.Paired.mapP hys2 fun _ _ h => TRows.same s4 h) ex
        obtain ⟨z1, z2⟩ := O.sz m ((sortM_perm _).mem_iff.mp (List.mem_of_getElem? em))
        refine ⟨rfl, _, rfl, ?_⟩
        intro xg xd nx nd ne
        refine make_gridN nx nd hm.rows (by omega) (by omega) (by omega) z2 fun He se Ge => ⟨rfl, ?_⟩
        exact k _ _ se ⟨m, em, Ge⟩
      · intro H4 l4 s4 eD4 hp4
        have hp5 := paired_at (F := fun v m => IsGrid K T.C_Grid H4 v m n) (by rw [(sortM_perm _).length_eq, hlen]) hp4
        refine ⟨D2, l4, rfl, .inl ⟨.inl (.inl eD4), fun t nt => ?_⟩⟩
        have st := same_upd (o := .tup l4) nt
        exact q t l4 _ (s1.trans (s2.trans (sq.trans (s4.trans st)))) (.inl (.inl upd_same)) (L2.Paired.mapP hp5 fun _ _ h => IsGrid.same st h)
theorem cal_sublattices (T : Top K mg) (hN : base.NoSeer) (hT : P.given.tree = none) : Cal P w K mg base 46 "sublattices" (sp_sublattices K T.C_Grid) [] := ⟨⟨_, _, _, [], ok_sublattices T hN hT, T.g_sublattices, T.F_sublattices.kp, T.b_sublattices, .nil⟩⟩

end
end K44
namespace K44
open PySem PySem.Spec PyProof.Rows L2 Gm
open C8 (Cal Met Mak pe_c pe_mt pe_mt0 pe_mk)
section
variable {P : Program} {w : World} {K : PySem.W.Frag} {mg : Str → Option Value} {base : Heap}
/-! ### the law's rows made longer -/
theorem longR_len (rows : List (List Int)) (p : Nat) : (longR rows p).length = rows.length * p := by
  unfold longR
  induction rows with
  | nil => simp
  | cons r rows ih => rw [List.flatMap_cons, List.length_append, ih, List.length_map, List.length_range, List.length_cons, Nat.add_mul]; omega
theorem longR_take (rows : List (List Int)) (p i : Nat) : (longR (rows.take i) p).length ≤ (longR rows p).length := by
  rw [longR_len, longR_len, List.length_take]
  exact Nat.mul_le_mul_right p (by omega)
def sp_law_longer (K : PySem.W.Frag) : Sp := fun vs H Q _ => ∃ (a : Addr) (l : List V) (rows : List (List Int)) (p : Nat), vs = [.ref a, .int (p : Int)] ∧ H a = some (.lst l) ∧ Paired (TRow K H) l rows ∧ p ≤ 60 ∧ (longR rows p).length ≤ 900 ∧ (∀ r ∈ rows, r.length ≤ 10) ∧ ∀ r l' H', Same H H' → H' r = some (.lst l') → Paired (TRow K H') l' (longR rows p) → Q (.ref r) H'
theorem ok_law_longer (T : Top K mg) (hN : base.NoSeer) (hT : P.given.tree = none) : FnOk P w K mg base CX0 1 T.a_law_longer T.d_law_longer ["rows", "pivot"] (sp_law_longer K) := by
  refine T.F_law_longer.ok sc_law_longer (fun vs H Q E h => ?_) (fun cdv A outer s H vs Q E hr h => ?_)
  · obtain ⟨a, l, rows, p, rfl, _⟩ := h
    rfl
  · obtain ⟨a, l, rows, p, rfl, ha, hp, hp60, hlen, hrl, q⟩ := h
    refine ⟨_, (pss_cons (ps_set (i := 2) sc_law_longer.nd rfl (by first | exact .inl rfl | exact .inr rfl) (pe_lst pa_nil))
      (pss_cons (ps_for PassesOwn.never rfl (piL K rfl (pv 0)) (pg_name (i := 3) sc_law_longer.nd rfl (by first | exact .inl rfl | exact .inr rfl))
      (pss_one (ps_set (i := 2) sc_law_longer.nd rfl (by first | exact .inl rfl | exact .inr rfl) (pe_op op_cat (pv 2) (pe_lc (own := [("x", 4)]) (g := (gName 4)) (by rfl) sc_law_longer.nd (pi_range1 (by rfl) T.z_range (pa_cons (pv 1) pa_nil)) ((by show BlkOk ["rows", "pivot", "out", "row", "x"] (defScope s_law_longer) _ _; exact blkOk_by (by decide +kernel))) (fun _ _ _ _ _ => (pg_name (i := 4) sc_law_longer.nd rfl (by first | exact .inl rfl | exact .inr rfl))) (fun _ _ _ _ _ => pts_nil) (fun _ _ _ _ _ => (pe_op (catK K rfl) (pv 3) (pe_tup (pa_cons (pv 4) pa_nil)))))))))
      (pss_one (ps_ret (pv 2))))), ?_⟩
    refine ⟨by show 0 ≤ sizeLine; decide, fun D0 hD0 => ?_⟩
    have s0 := same_upd (o := .lst []) hD0
    have ll := Paired.length hp
    refine ⟨_, rfl, a, rfl, ⟨_, .inl (.inl (s0 _ _ ha))⟩, ?_⟩
    refine for_it (walk_list (xs := l)) (fun j σ H3 => ∃ (d : Addr) (ld : List V) (y3 y4 : Option V), σ = [some (.ref a), some (.int (p : Int)), some (.ref d), y3, y4] ∧ Same H H3 ∧ H3 d = some (.lst ld) ∧ Paired (TRow K H3) ld (longR (rows.take j) p)) ⟨D0, [], none, none, rfl, s0, upd_same, .nil⟩ (fun j σ H3 _ ⟨_, _, _, _, _, s3, _⟩ => .inl (.inl (s3 _ _ ha))) ?_ ?_
    · rintro j x σ H3 H3' hj ⟨d, ld, y3, y4, rfl, s3, hd, hpd⟩ ⟨rfl, ex⟩
      obtain ⟨r0, er, hr0⟩ := Paired.getR (L2.Paired.mapP hp fun _ _ h => TRow.same s3 h) ex
      obtain ⟨ar, rfl, har⟩ := hr0
      have h10 := hrl r0 (List.mem_of_getElem? er)
      have hnext : longR (rows.take (j + 1)) p = longR (rows.take j) p ++ (List.range p).map fun (z : Nat) => r0 ++ [(z : Int)] := by
        unfold longR
        rw [List.take_succ, er, List.flatMap_append]
        simp
      refine ⟨_, rfl, _, rfl, (p : Int), rfl, by omega, by omega, ?_⟩
      rw [show ((p : Int)).toNat = p from Int.toNat_natCast _]
      intro D hD
      refine lc_all (walk_range (lo := 0) (n := p)) hD (by omega) (fun _ _ => trivial) (fun ix v H4 => ∃ r, ((List.range p).map fun (z : Nat) => r0 ++ [(z : Int)])[ix]? = some r ∧ TRow K H4 v r) (fun ix v Ha Hb acc e o ⟨r, er, h⟩ => ⟨r, er, TRow.off e o h⟩) ?_ gm_name ?_
      · rintro ix x H4 H4' acc Ko hix s4 eD4 ⟨rfl, rfl⟩ k
        refine ⟨rfl, ?_⟩
        refine ⟨_, rfl, _, rfl, by show 1 ≤ sizeLine; decide, fun tz ntz => ?_⟩
        refine catA (Same.seqT (s4.trans (same_upd ntz)) har) (.inl (.inl upd_same)) (by rw [List.length_map]; show r0.length + 1 ≤ 1000; omega) fun pc Ha sa hpc => ?_
        refine k _ _ ((same_upd ntz).trans sa) ⟨r0 ++ [(ix : Int)], ?_, pc, rfl, ?_⟩
        · rw [List.getElem?_map, List.getElem?_range hix]
          rfl
        · have hpc2 : SqT K Ha pc (List.map V.int r0 ++ [V.int (0 + (ix : Int))]) := hpc
          rw [Int.zero_add] at hpc2
          rw [List.map_append]
          exact hpc2
      · intro H4 l4 s4 eD4 hp4
        have hp5 := paired_at (F := TRow K H4) (by rw [List.length_map, List.length_range]) hp4
        have l5 := Paired.length hp5
        have l3 := Paired.length hpd
        rw [List.length_map, List.length_range] at l5
        have lt' := longR_take rows p j
        refine ⟨d, D, ld, l4, rfl, rfl, s4 _ _ hd, eD4, by rw [sizeLine_eq]; omega, fun t nt => ?_⟩
        have st := same_upd (o := .lst (ld ++ l4)) nt
        refine ⟨t, _, _, _, rfl, s3.trans (s4.trans st), upd_same, ?_⟩
        rw [hnext]
        exact L2.Paired.mapP (paired_app (L2.Paired.mapP hpd fun _ _ h => TRow.same s4 h) hp5) fun _ _ h => TRow.same st h
    · rintro σ H3 ⟨d, ld, y3, y4, rfl, s3, hd, hpd⟩
      rw [ll, List.take_length] at hpd
      exact ⟨_, rfl, q d ld H3 s3 hd hpd⟩
theorem cal_law_longer (T : Top K mg) (hN : base.NoSeer) (hT : P.given.tree = none) : Cal P w K mg base 1 "_law_longer" (sp_law_longer K) [] := ⟨⟨_, _, _, [], ok_law_longer T hN hT, T.g_law_longer, T.F_law_longer.kp, T.b_law_longer, .nil⟩⟩

end
end K44
namespace K44
open PySem PySem.Spec PyProof.Rows L2 Gm
open C8 (Cal Met Mak pe_c pe_mt pe_mt0 pe_mk)
section
variable {P : Program} {w : World} {K : PySem.W.Frag} {mg : Str → Option Value} {base : Heap}
/-! ### the law's tables -/
def lawK (a h : Nat) (t : List (List Int)) : List (List (List Int)) := ((tabP (a + 1) t).foldl longR [headR a h]).map fun r => r :: t
def lawG (m i a h : Nat) : List (List (List Int)) := if i % h = 0 then (lawT m (i / h) (a + 1)).flatMap (lawK a h) else []
theorem lawT_succ (m i a : Nat) : lawT (m + 1) i a = ((List.range i).map (· + 1)).flatMap (lawG m i a) := rfl
def okTt (m a h : Nat) (t : List (List Int)) : Bool := decide (t.length = m) && ((List.range m).all fun u => decide ((((tabP (a + 1) t).getD u 0 : Nat) : Int) = (t.getD u []).getD (a + 1 + u) 0) && decide (a + 1 + u < (t.getD u []).length) && decide ((tabP (a + 1) t).getD u 0 ≤ 60)) && (List.range (m + 1)).all fun u => decide ((((tabP (a + 1) t).take u).foldl longR [headR a h]).length ≤ 900) && (((tabP (a + 1) t).take u).foldl longR [headR a h]).all fun r => decide (r.length ≤ 10)
def okT : Nat → Nat → Nat → Bool
  | 0, _, _ => true
  | m + 1, i, a => decide ((lawT (m + 1) i a).length ≤ 900) && (List.range i).all fun h => decide (i % (h + 1) ≠ 0) || (okT m (i / (h + 1)) (a + 1) && (lawT m (i / (h + 1)) (a + 1)).all (okTt m a (h + 1)))
theorem okT1 : ∀ i < 61, 0 < i → okT 1 i 0 = true := by decide +kernel
theorem okT2 : ∀ i < 61, 0 < i → okT 2 i 0 = true := by decide +kernel
theorem okT3 : ∀ i < 13, 0 < i → okT 3 i 0 = true := by decide +kernel
theorem okT4 : ∀ i < 5, 0 < i → okT 4 i 0 = true := by decide +kernel
theorem okT_of {n i : Nat} (h : SizeOk n i) : okT n i 0 = true := by
  obtain ⟨h1, ⟨rfl, h2⟩ | ⟨rfl, h2⟩ | ⟨rfl, h2⟩ | ⟨rfl, h2⟩⟩ := h
  · exact okT1 i (by omega) h1
  · exact okT2 i (by omega) h1
  · exact okT3 i (by omega) h1
  · exact okT4 i (by omega) h1
structure OkTt (m a h : Nat) (t : List (List Int)) : Prop where
  len : t.length = m
  at' : ∀ u, u < m → (((tabP (a + 1) t).getD u 0 : Nat) : Int) = (t.getD u []).getD (a + 1 + u) 0 ∧ a + 1 + u < (t.getD u []).length ∧ (tabP (a + 1) t).getD u 0 ≤ 60
  rows : ∀ u, u ≤ m → (((tabP (a + 1) t).take u).foldl longR [headR a h]).length ≤ 900 ∧ ∀ r ∈ ((tabP (a + 1) t).take u).foldl longR [headR a h], r.length ≤ 10
theorem okT_get {m i a : Nat} (h : okT (m + 1) i a = true) : (lawT (m + 1) i a).length ≤ 900 ∧ ∀ hd, 1 ≤ hd → hd ≤ i → i % hd = 0 → okT m (i / hd) (a + 1) = true ∧ ∀ t ∈ lawT m (i / hd) (a + 1), OkTt m a hd t := by
  rw [okT] at h
  simp only [Bool.and_eq_true, decide_eq_true_eq, List.all_eq_true, List.mem_range, Bool.or_eq_true] at h
  refine ⟨h.1, fun hd h1 h2 h3 => ?_⟩
  have h4 := h.2 (hd - 1) (by omega)
  rw [show hd - 1 + 1 = hd by omega] at h4
  obtain ⟨h5, h6⟩ := h4.resolve_left (by omega)
  refine ⟨h5, fun t ht => ?_⟩
  have h7 := h6 t ht
  unfold okTt at h7
  simp only [Bool.and_eq_true, decide_eq_true_eq, List.all_eq_true, List.mem_range] at h7
  obtain ⟨⟨g1, g2⟩, g3⟩ := h7
  exact ⟨g1, fun u hu => ⟨(g2 u hu).1.1, (g2 u hu).1.2, (g2 u hu).2⟩, fun u hu => g3 u (by omega)⟩
theorem getD_some {r : List Int} {i : Nat} (h : i < r.length) : r[i]? = some (r.getD i 0) := by
  rw [List.getD_eq_getElem?_getD, List.getElem?_eq_getElem h]
  rfl
def sp_law_tables (K : PySem.W.Frag) (m : Nat) : Sp := fun vs H Q _ => ∃ (n i a : Nat), vs = [.int (n : Int), .int (i : Int), .int (a : Int)] ∧ a + m = n ∧ n ≤ 4 ∧ 1 ≤ i ∧ i ≤ 60 ∧ okT m i a = true ∧ ∀ r l H', Same H H' → H' r = some (.lst l) → Paired (TRows K H') l (lawT m i a) → Q (.ref r) H'
theorem ok_law_tables (T : Top K mg) (hN : base.NoSeer) (hT : P.given.tree = none) : ∀ m, m ≤ 4 → FnOk P w K mg base CX0 (44 + m) T.a_law_tables T.d_law_tables ["n", "index", "at"] (sp_law_tables K m)
  | 0, _ => by
    refine T.F_law_tables.ok sc_law_tables (fun vs H Q E h => ?_) (fun cdv A outer s H vs Q E hr h => ?_)
    · obtain ⟨n, i, a, rfl, _⟩ := h
      rfl
    · obtain ⟨n, i, a, rfl, han, hn4, hi1, hi60, hok, q⟩ := h
      refine ⟨_, (pss_cons (ps_if (pt_cmpR op_eq (pv 2) (pv 0) (nomark _))
      (pss_one (ps_ret (pe_ifExp (pt_cmpR op_eq (pv 1) pe_int (nomark _)) (pe_lst (pa_cons (pe_tup pa_nil) pa_nil)) (pe_lst pa_nil))))
      pss_nil)
      (pss_cons ps_never
      (pss_cons ps_never
      (pss_one ps_never)))), ?_⟩
      have e : a = n := by omega
      subst e
      refine ⟨_, rfl, _, rfl, rfl, _, rfl, ?_⟩
      rw [decide_eq_true rfl]
      refine iteT ?_
      refine ⟨_, rfl, rfl, _, rfl, ?_⟩
      by_cases h1 : i = 1
      · rw [decide_eq_true (show V.int (i : Int) = V.int 1 by rw [h1]; rfl)]
        refine iteT ?_
        refine ⟨by show 0 ≤ sizeLine; decide, fun t0 nt0 => ?_⟩
        refine ⟨by show 1 ≤ sizeLine; decide, fun D0 hD0 => ?_⟩
        refine q D0 [.ref t0] _ ((same_upd nt0).trans (same_upd hD0)) upd_same ?_
        rw [lawT, if_pos h1]
        exact .cons ⟨t0, [], rfl, .inl (.inl ((same_upd hD0) _ _ upd_same)), .nil⟩ .nil
      · rw [decide_eq_false (show ¬ V.int (i : Int) = V.int 1 from fun z => h1 (by have := V.int.inj z; omega))]
        refine iteF ?_
        refine ⟨by show 0 ≤ sizeLine; decide, fun D0 hD0 => ?_⟩
        refine q D0 [] _ (same_upd hD0) upd_same ?_
        rw [lawT, if_neg h1]
        exact .nil
  | m + 1, hm4 => by
    have IH := ok_law_tables T hN hT m (by omega)
    have cself : Cal P w K mg base (44 + m) "_law_tables" (sp_law_tables K m) [] := ⟨⟨_, _, _, [], IH, T.g_law_tables, T.F_law_tables.kp, T.b_law_tables, .nil⟩⟩
    refine T.F_law_tables.ok sc_law_tables (fun vs H Q E h => ?_) (fun cdv A outer s H vs Q E hr h => ?_)
    · obtain ⟨n, i, a, rfl, _⟩ := h
      rfl
    · obtain ⟨n, i, a, rfl, han, hn4, hi1, hi60, hok, q⟩ := h
      obtain ⟨olen, ok2⟩ := okT_get hok
      refine ⟨_, (pss_cons (ps_if (pt_cmpR op_eq (pv 2) (pv 0) (nomark _))
      (pss_one (ps_ret (pe_ifExp (pt_cmpR op_eq (pv 1) pe_int (nomark _)) (pe_lst (pa_cons (pe_tup pa_nil) pa_nil)) (pe_lst pa_nil))))
      pss_nil)
      (pss_cons (ps_set (i := 3) sc_law_tables.nd rfl (by first | exact .inl rfl | exact .inr rfl) (pe_lst pa_nil))
      (pss_cons (ps_for PassesOwn.never rfl (pi_range2 (by rfl) T.z_range (pa_cons pe_int (pa_cons (pe_op op_add (pv 1) pe_int) pa_nil))) (pg_name (i := 4) sc_law_tables.nd rfl (by first | exact .inl rfl | exact .inr rfl))
      (pss_one (ps_if (pt_cmpR op_eq (pe_op op_mod (pv 1) (pv 4)) pe_int (nomark _))
      (pss_one (ps_for PassesOwn.never rfl (piL K rfl (pe_c cself hr (Nat.le_refl _) (by rfl) (pa_cons (pv 0) (pa_cons (pe_op (op_fdivQ hN rfl rfl rfl rfl rfl hT (room100 hr (Nat.le_trans (show 40 ≤ 44 by decide) (Nat.le_add_right 44 m)))) (pe_callTy (call_int1) (by rfl) T.z_int (by decide +kernel) (pa_cons (pv 1) pa_nil)) (pv 4)) (pa_cons (pe_op op_add (pv 2) pe_int) pa_nil))))) (pg_name (i := 5) sc_law_tables.nd rfl (by first | exact .inl rfl | exact .inr rfl))
      (pss_cons (ps_set (i := 6) sc_law_tables.nd rfl (by first | exact .inl rfl | exact .inr rfl) (pe_lst (pa_cons (pe_op (catK K rfl) (pe_callTy (tupK K rfl) (by rfl) T.z_tuple (by decide +kernel) (pa_cons (pe_lc (own := [("k", 7)]) (g := (gName 7)) (by rfl) sc_law_tables.nd (pi_range1 (by rfl) T.z_range (pa_cons (pv 2) pa_nil)) ((by show BlkOk ["n", "index", "at", "out", "head", "table", "rows", "k", "row"] (defScope s_law_tables) _ _; exact blkOk_by (by decide +kernel))) (fun _ _ _ _ _ => (pg_name (i := 7) sc_law_tables.nd rfl (by first | exact .inl rfl | exact .inr rfl))) (fun _ _ _ _ _ => pts_nil) (fun _ _ _ _ _ => pe_int)) pa_nil)) (pe_tup (pa_cons (pv 4) pa_nil))) pa_nil)))
      (pss_cons (ps_for PassesOwn.never rfl (pi_range2 (by rfl) T.z_range (pa_cons (pe_op op_add (pv 2) pe_int) (pa_cons (pv 0) pa_nil))) (pg_name (i := 7) sc_law_tables.nd rfl (by first | exact .inl rfl | exact .inr rfl))
      (pss_one (ps_set (i := 6) sc_law_tables.nd rfl (by first | exact .inl rfl | exact .inr rfl) (pe_c (cal_law_longer T hN hT) hr (Nat.le_trans (show _ ≤ 44 by decide) (Nat.le_add_right 44 m)) (by rfl) (pa_cons (pv 6) (pa_cons (pe_ix (ixT K rfl) (pe_ix (ixT K rfl) (pv 5) (pe_op op_sub (pe_op op_sub (pv 7) (pv 2)) pe_int) (fun _ _ => rfl)) (pv 7) (fun _ _ => rfl)) pa_nil))))))
      (pss_one (ps_set (i := 3) sc_law_tables.nd rfl (by first | exact .inl rfl | exact .inr rfl) (pe_op op_cat (pv 3) (pe_lc (own := [("row", 8)]) (g := (gName 8)) (by rfl) sc_law_tables.nd (piL K rfl (pv 6)) ((by show BlkOk ["n", "index", "at", "out", "head", "table", "rows", "k", "row"] (defScope s_law_tables) _ _; exact blkOk_by (by decide +kernel))) (fun _ _ _ _ _ => (pg_name (i := 8) sc_law_tables.nd rfl (by first | exact .inl rfl | exact .inr rfl))) (fun _ _ _ _ _ => pts_nil) (fun _ _ _ _ _ => (pe_op (catK K rfl) (pe_tup (pa_cons (pv 8) pa_nil)) (pv 5)))))))))))
      pss_nil)))
      (pss_one (ps_ret (pv 3)))))), ?_⟩
      refine ⟨_, rfl, _, rfl, rfl, _, rfl, ?_⟩
      rw [decide_eq_false (show ¬ V.int (a : Int) = V.int (n : Int) from fun z => by have := V.int.inj z; omega)]
      refine iteF ?_
      refine ⟨by show 0 ≤ sizeLine; decide, fun D0 hD0 => ?_⟩
      refine ⟨_, rfl, _, _, rfl, rfl, 1, (i : Int) + 1, rfl, ⟨by omega, by omega, by omega, by omega⟩, ?_⟩
      rw [show ((i : Int) + 1 - 1).toNat = i by omega]
      have s0 := same_upd (o := .lst []) hD0
      refine for_it walk_range (fun j σ H3 => ∃ (d : Addr) (ld : List V) (y4 y5 y6 y7 y8 : Option V), σ = [some (.int (n : Int)), some (.int (i : Int)), some (.int (a : Int)), some (.ref d), y4, y5, y6, y7, y8] ∧ Same H H3 ∧ H3 d = some (.lst ld) ∧ Paired (TRows K H3) ld ((((List.range i).map (· + 1)).take j).flatMap (lawG m i a))) ⟨D0, [], none, none, none, none, none, rfl, s0, upd_same, .nil⟩ (fun _ _ _ _ _ => trivial) ?_ ?_
      · rintro j x σ H3 H3' hj ⟨d, ld, y4, y5, y6, y7, y8, rfl, s3, hd, hpd⟩ ⟨rfl, rfl⟩
        obtain ⟨hh, ehh⟩ : ∃ hh, hh = j + 1 := ⟨_, rfl⟩
        have hI : (1 : Int) + (j : Int) = (hh : Int) := by omega
        have hnext : (((List.range i).map (· + 1)).take (j + 1)).flatMap (lawG m i a) = (((List.range i).map (· + 1)).take j).flatMap (lawG m i a) ++ lawG m i a hh := by
          rw [List.take_succ, List.getElem?_map, List.getElem?_range hj, List.flatMap_append, ehh]
          simp
        have hpre : ((((List.range i).map (· + 1)).take (j + 1)).flatMap (lawG m i a)).length ≤ 900 := by
          refine Nat.le_trans ?_ olen
          rw [lawT_succ]
          conv => rhs; rw [← List.take_append_drop (j + 1) ((List.range i).map (· + 1)), List.flatMap_append, List.length_append]
          omega
        rw [hnext] at hpre
        refine ⟨_, rfl, _, rfl, (i : Int), _, rfl, rfl, by show (0 : Int) < 1 + (j : Int); omega, rfl, _, rfl, ?_⟩
        by_cases hdv : i % hh = 0
        · have eG : lawG m i a hh = (lawT m (i / hh) (a + 1)).flatMap (lawK a hh) := if_pos hdv
          obtain ⟨ok3, ok4⟩ := ok2 hh (by omega) (by omega) hdv
          rw [decide_eq_true (show V.int ((i : Int) % (1 + (j : Int))) = V.int 0 by rw [hI, ← Int.natCast_emod, hdv]; rfl)]
          refine iteT ?_
          have ef : ((i : Int)).fdiv (1 + (j : Int)) = ((i / hh : Nat) : Int) := by rw [hI, Int.fdiv_eq_ediv_of_nonneg _ (by omega)]; rfl
          have q1 : 1 ≤ i / hh := by
            have e := Nat.div_mul_cancel (Nat.dvd_of_mod_eq_zero hdv)
            rcases Nat.eq_zero_or_pos (i / hh) with z | z
            · rw [z, Nat.zero_mul] at e; omega
            · exact z
          have q2 : i / hh ≤ 60 := Nat.le_trans (Nat.div_le_self i hh) hi60
          refine ⟨_, rfl, _, rfl, .inl ⟨_, rfl, _, rfl, _, _, rfl, rfl, by show (1 : Int) + (j : Int) ≠ 0; omega, _, rfl, _, _, rfl, rfl, ?_⟩⟩
          refine ⟨n, i / hh, a + 1, ?_, by omega, hn4, q1, q2, ok3, fun rt lt H4 s4 hrt hpt => ?_⟩
          · show [V.int (n : Int), V.int (((i : Int)).fdiv (1 + (j : Int))), V.int ((a : Int) + 1)] = _
            rw [ef]
            rfl
          refine ⟨rt, rfl, ⟨_, .inl (.inl hrt)⟩, ?_⟩
          have llt := Paired.length hpt
          refine for_it (walk_list (xs := lt)) (fun u σ H5 => ∃ (d' : Addr) (ld' : List V) (y5 y6 y7 y8 : Option V), σ = [some (.int (n : Int)), some (.int (i : Int)), some (.int (a : Int)), some (.ref d'), some (.int (1 + (j : Int))), y5, y6, y7, y8] ∧ Same H4 H5 ∧ H5 d' = some (.lst ld') ∧ Paired (TRows K H5) ld' ((((List.range i).map (· + 1)).take j).flatMap (lawG m i a) ++ ((lawT m (i / hh) (a + 1)).take u).flatMap (lawK a hh))) ⟨d, ld, _, _, _, _, rfl, fun _ _ h => h, s4 _ _ hd, ?_⟩ (fun u σ H5 _ ⟨_, _, _, _, _, _, _, s5, _⟩ => .inl (.inl (s5 _ _ hrt))) ?_ ?_
          · rw [List.take_zero, List.flatMap_nil, List.append_nil]
            exact L2.Paired.mapP hpd fun _ _ h => TRows.same s4 h
          · rintro u x σ H5 H5' hu ⟨d', ld', y5, y6, y7, y8, rfl, s5, hd', hpd'⟩ ⟨rfl, ex⟩
            obtain ⟨t, et, htt⟩ := Paired.getR (L2.Paired.mapP hpt fun _ _ h => TRows.same s5 h) ex
            have O := ok4 t (List.mem_of_getElem? et)
            obtain ⟨tb, wt, rfl, htb, hpw⟩ := htt
            have lwt := Paired.length hpw
            have olt := O.len
            have hnx2 : ((lawT m (i / hh) (a + 1)).take (u + 1)).flatMap (lawK a hh) = ((lawT m (i / hh) (a + 1)).take u).flatMap (lawK a hh) ++ lawK a hh t := by
              rw [List.take_succ, et, List.flatMap_append]
              simp
            have hpre2 : ((((List.range i).map (· + 1)).take j).flatMap (lawG m i a) ++ (((lawT m (i / hh) (a + 1)).take u).flatMap (lawK a hh) ++ lawK a hh t)).length ≤ 900 := by
              refine Nat.le_trans ?_ hpre
              rw [← hnx2, eG, List.length_append, List.length_append]
              conv => rhs; rw [← List.take_append_drop (u + 1) (lawT m (i / hh) (a + 1)), List.flatMap_append, List.length_append]
              omega
            refine ⟨_, rfl, (a : Int), rfl, by omega, by omega, ?_⟩
            rw [show ((a : Int)).toNat = a from Int.toNat_natCast _]
            intro D1 hD1
            refine lc_all (walk_range (lo := 0) (n := a)) hD1 (by omega) (fun _ _ => trivial) (fun ix v H6 => ∃ z, (List.replicate a (0 : Int))[ix]? = some z ∧ v = .int z) (fun _ _ _ _ _ _ _ h => h) ?_ gm_name ?_
            · rintro ix x H6 H6' acc Ko hix s6 eD6 ⟨rfl, rfl⟩ k
              exact ⟨rfl, k _ _ (fun _ _ h => h) ⟨0, by rw [List.getElem?_replicate, if_pos hix], rfl⟩⟩
            intro H6 l6 s6 eD6 hp6
            have el := ints_list (by rw [List.length_replicate]) hp6
            subst el
            refine ⟨D1, _, rfl, .inl ⟨.inl (.inl eD6), fun tz ntz => ?_⟩⟩
            have sz := same_upd (o := .tup ((List.replicate a (0 : Int)).map V.int)) ntz
            refine ⟨_, rfl, by show 1 ≤ sizeLine; decide, fun tq ntq => ?_⟩
            refine catA (Same.seqT (same_upd ntq) (.inl (.inl upd_same))) (.inl (.inl upd_same)) (by rw [List.length_map, List.length_replicate]; show a + 1 ≤ 1000; omega) fun pr H7 s7 h7 => ?_
            refine ⟨by show 1 ≤ sizeLine; decide, fun E0 nE0 => ?_⟩
            have s5e := s6.trans (sz.trans ((same_upd ntq).trans (s7.trans (same_upd (o := .lst [V.ref pr]) nE0))))
            have lT : (tabP (a + 1) t).length = m := by unfold tabP; rw [List.length_map, List.length_range, olt]
            have hpr7 : SqT K H7 pr ((headR a hh).map V.int) := by
              have h7' : SqT K H7 pr ((List.replicate a (0 : Int)).map V.int ++ [V.int (1 + (j : Int))]) := h7
              rw [hI] at h7'
              unfold headR
              rw [List.map_append]
              exact h7'
            refine ⟨_, rfl, _, _, rfl, rfl, _, rfl, (a : Int) + 1, (n : Int), rfl, ⟨by omega, by omega, by omega, by omega⟩, ?_⟩
            rw [show ((n : Int) - ((a : Int) + 1)).toNat = m by omega]
            refine for_it walk_range (fun v σ H8 => ∃ (e : Addr) (lr : List V) (y7 y8 : Option V), σ = [some (.int (n : Int)), some (.int (i : Int)), some (.int (a : Int)), some (.ref d'), some (.int (1 + (j : Int))), some (.ref tb), some (.ref e), y7, y8] ∧ Same (upd H7 E0 (.lst [V.ref pr])) H8 ∧ H8 e = some (.lst lr) ∧ Paired (TRow K H8) lr (((tabP (a + 1) t).take v).foldl longR [headR a hh])) ⟨E0, [.ref pr], _, _, rfl, fun _ _ h => h, upd_same, .cons ⟨pr, rfl, Same.seqT (same_upd nE0) hpr7⟩ .nil⟩ (fun _ _ _ _ _ => trivial) ?_ ?_
            · rintro v x σ H8 H8' hv ⟨e, lr, y7, y8, rfl, s8, he, hpr⟩ ⟨rfl, rfl⟩
              obtain ⟨o1, o2, o3⟩ := O.at' v hv
              obtain ⟨b1, b2⟩ := O.rows v (by omega)
              obtain ⟨c1, c2⟩ := O.rows (v + 1) (by omega)
              have etv : t[v]? = some (t.getD v []) := by rw [List.getD_eq_getElem?_getD, List.getElem?_eq_getElem (by omega)]; rfl
              have hpw8 := L2.Paired.mapP hpw fun _ _ h => TRow.same (s5e.trans s8) h
              obtain ⟨wv, ewv, cv, rfl, hcv⟩ := Paired.getL hpw8 etv
              have ecell : (t.getD v [])[a + 1 + v]? = some (((tabP (a + 1) t).getD v 0 : Nat) : Int) := by
                rw [o1]
                exact getD_some o2
              have hstep : ((tabP (a + 1) t).take (v + 1)).foldl longR [headR a hh] = longR (((tabP (a + 1) t).take v).foldl longR [headR a hh]) ((tabP (a + 1) t).getD v 0) := by
                rw [List.take_succ, show (tabP (a + 1) t)[v]? = some ((tabP (a + 1) t).getD v 0) by rw [List.getD_eq_getElem?_getD, List.getElem?_eq_getElem (by omega)]; rfl, List.foldl_append]
                rfl
              rw [hstep] at c1
              refine ⟨_, rfl, _, rfl, _, rfl, _, rfl, _, _, rfl, rfl, _, _, rfl, rfl, tb, wt, _, _, rfl, rfl, Same.seqT (s5e.trans s8) htb, at_of (j := v) (by show (a : Int) + 1 + (v : Int) - (a : Int) - 1 = (v : Int); omega) ewv, ?_⟩
              refine ⟨_, rfl, cv, _, _, _, rfl, rfl, hcv, at_of (j := a + 1 + v) (by show (a : Int) + 1 + (v : Int) = ((a + 1 + v : Nat) : Int); omega) (ints_at ecell), ?_⟩
              refine ⟨e, lr, _, (tabP (a + 1) t).getD v 0, rfl, he, hpr, o3, c1, b2, fun r9 l9 H9 s9 hr9 hp9 => ?_⟩
              refine ⟨r9, l9, _, _, rfl, s8.trans s9, hr9, ?_⟩
              rw [hstep]
              exact hp9
            · rintro σ H8 ⟨e, lr, y7, y8, rfl, s8, he, hpr⟩
              rw [show (tabP (a + 1) t).take m = tabP (a + 1) t from List.take_of_length_le (by omega)] at hpr
              have hl := Paired.length hpr
              obtain ⟨b1, _⟩ := O.rows m (Nat.le_refl _)
              rw [show (tabP (a + 1) t).take m = tabP (a + 1) t from List.take_of_length_le (by omega)] at b1
              have s58 := s5e.trans s8
              refine ⟨_, rfl, _, rfl, e, rfl, ⟨_, .inl (.inl he)⟩, fun D hD => ?_⟩
              have hnx3 : lawK a hh t = ((tabP (a + 1) t).foldl longR [headR a hh]).map fun r => r :: t := rfl
              refine lc_all (walk_list (xs := lr)) hD (by omega) (fun Ha sa => .inl (.inl (sa _ _ he))) (fun ix v Ha => ∃ m', (lawK a hh t)[ix]? = some m' ∧ TRows K Ha v m') (fun ix v Ha Hb acc e o ⟨r, er, h⟩ => ⟨r, er, TRows.off e o h⟩) ?_ gm_name ?_
              · rintro ix x Ha Ha' acc Ko hix sa eDa ⟨rfl, ex⟩ k
                obtain ⟨rr, err, hrr⟩ := Paired.getR (L2.Paired.mapP hpr fun _ _ h => TRow.same sa h) ex
                refine ⟨rfl, ?_⟩
                refine ⟨_, rfl, by show 1 ≤ sizeLine; decide, fun tz2 ntz2 => ?_⟩
                have sb := same_upd (o := .tup [x]) ntz2
                refine ⟨_, rfl, ?_⟩
                refine catA (.inl (.inl upd_same)) (Same.seqT (s58.trans (sa.trans sb)) htb) (by show 1 + wt.length ≤ 1000; omega) fun pc Hb sc hpc => ?_
                refine k _ _ (sb.trans sc) ⟨rr :: t, by rw [hnx3, List.getElem?_map, err]; rfl, pc, _, rfl, hpc, ?_⟩
                exact .cons (TRow.same (sb.trans sc) hrr) (L2.Paired.mapP hpw fun _ _ h => TRow.same (s58.trans (sa.trans (sb.trans sc))) h)
              · intro Ha l4 sa eDa hp4
                have hp5 := paired_at (F := TRows K Ha) (by rw [hnx3, List.length_map, hl]) hp4
                have l5 := Paired.length hp5
                have l3 := Paired.length hpd'
                rw [List.length_append, List.length_append] at hpre2
                rw [List.length_append] at l3
                have s5a := s58.trans sa
                refine ⟨d', D, ld', l4, rfl, rfl, s5a _ _ hd', eDa, by rw [sizeLine_eq]; omega, fun tt ntt => ?_⟩
                have st := same_upd (o := .lst (ld' ++ l4)) ntt
                refine ⟨tt, _, _, _, _, _, rfl, s5.trans (s5a.trans st), upd_same, ?_⟩
                rw [hnx2, ← List.append_assoc]
                exact L2.Paired.mapP (paired_app (L2.Paired.mapP hpd' fun _ _ h => TRows.same s5a h) hp5) fun _ _ h => TRows.same st h
          · rintro σ H5 ⟨d', ld', y5, y6, y7, y8, rfl, s5, hd', hpd'⟩
            rw [llt, List.take_length] at hpd'
            refine ⟨d', ld', _, y5, y6, y7, y8, rfl, s3.trans (s4.trans s5), hd', ?_⟩
            rw [hnext, eG]
            exact hpd'
        · have eG : lawG m i a hh = [] := if_neg hdv
          rw [decide_eq_false (show ¬ V.int ((i : Int) % (1 + (j : Int))) = V.int 0 from fun z => hdv (by have := V.int.inj z; rw [hI, ← Int.natCast_emod] at this; omega))]
          refine iteF ?_
          refine ⟨d, ld, _, y5, y6, y7, y8, rfl, s3, hd, ?_⟩
          rw [hnext, eG, List.append_nil]
          exact hpd
      · rintro σ H3 ⟨d, ld, y4, y5, y6, y7, y8, rfl, s3, hd, hpd⟩
        rw [List.take_of_length_le (by rw [List.length_map, List.length_range]; exact Nat.le_refl _)] at hpd
        exact ⟨_, rfl, q d ld H3 s3 hd hpd⟩

end
end K44
namespace K44
open PySem PySem.Spec PyProof.Rows L2 Gm
open C8 (Cal Met Mak pe_c pe_mt pe_mt0 pe_mk)
section
variable {P : Program} {w : World} {K : PySem.W.Frag} {mg : Str → Option Value} {base : Heap}
/-! ### Refused -/
def sp_Refused_init (C : Addr) : Sp := fun vs H Q _ => ∃ (a : Addr) (y : V), vs = [.ref a, y] ∧ H a = some (exo a C none) ∧ ∀ dx, H dx = none → dx ≠ a → Q .non (upd (upd H dx (exd dx [("reason", y)])) a (exo a C (some dx)))
theorem ok_Refused_init (T : Top K mg) (hN : base.NoSeer) (hT : P.given.tree = none) : FnOk P w K mg base CX0 1 T.a_Refused_init T.d_Refused_init ["self", "reason"] (sp_Refused_init T.X_Refused) := by
  refine T.F_Refused_init.ok sc_Refused_init (fun vs H Q E h => ?_) (fun cdv A outer s H vs Q E hr h => ?_)
  · obtain ⟨a, y, rfl, _⟩ := h
    rfl
  · obtain ⟨a, y, rfl, ha, q⟩ := h
    refine ⟨_, (pss_one (ps_ost (pv 0) (pv 1))), ?_⟩
    exact ⟨_, rfl, _, rfl, a, T.X_Refused, rfl, T.oX_Refused, T.nf_Refused, .inl ⟨ha, fun dx n ne => q dx n ne⟩⟩
/-- what a Refused leaves -/
def ERef (E : XK) (X : Addr) (r : Str) (H : Hp) : Prop := ∀ d H', Same H H' → H' d = some (.xd [("reason", .str r)]) → E (.ref X) (some d) H'
theorem ERef.at {E : XK} {X : Addr} {r : Str} {H H' : Hp} (s : Same H H') (h : ERef E X r H) : ERef E X r H' := fun d H2 s2 e => h d H2 (s.trans s2) e
theorem made_ref {E : XK} {X : Addr} {r : Str} {H : Hp} (h : ERef E X r H) (a : Addr) (na : H a = none) : sp_Refused_init X (.ref a :: ([.str r] ++ [])) (upd H a (exo a X none))
    (fun v H2 => v = .non ∧ ∃ (d : Addr) (fs : List (Str × V)), H2 a = some (exo a X (some d)) ∧ H2 d = some (exd d fs) ∧ H d = none ∧ E (.ref X) (some d) (upd (del H2 a) d (.xd fs))) (fun _ _ _ => False) := by
  refine ⟨a, .str r, rfl, upd_same, fun dx nd ne => ⟨rfl, dx, [("reason", .str r)], upd_same, ?_, ?_, ?_⟩⟩
  · rw [upd_ne ne, upd_same]
  · rw [upd_ne ne] at nd
    exact nd
  · refine h dx _ (fun b o e => ?_) upd_same
    have hba : b ≠ a := ne_of_none e na
    rw [upd_ne ne] at nd
    have hbd : b ≠ dx := ne_of_none e nd
    rw [upd_ne hbd, del_ne hba, upd_ne hba, upd_ne hbd, upd_ne hba]
    exact e

end
end K44
namespace K44
open PySem PySem.Spec PyProof.Rows L2 Gm
open C8 (Cal Met Mak pe_c pe_mt pe_mt0 pe_mk)
section
variable {P : Program} {w : World} {K : PySem.W.Frag} {mg : Str → Option Value} {base : Heap}
/-! ### refusals -/
def sp_check_number_X (X : Addr) : Sp := fun vs H Q E => ∃ (v m : Int), vs = [.int v, .int m] ∧ ((1 ≤ v ∧ v ≤ m ∧ Q .non H) ∨ (¬ (1 ≤ v ∧ v ≤ m) ∧ ERef E X "large" H))
theorem ok_check_number_X (T : Top K mg) (hN : base.NoSeer) (hT : P.given.tree = none) : FnOk P w K mg base (L2N.CX P w) 3 T.a_check_number T.d_check_number ["value", "most"] (sp_check_number_X T.X_Refused) := by
  refine okN T.F_check_number sc_check_number (fun vs H Q E h => ?_) (fun cdv A outer s H vs Q E hr h => ?_)
  · obtain ⟨v, m, rfl, _⟩ := h
    rfl
  · obtain ⟨v, m, rfl, q⟩ := h
    refine ⟨_, (pss_one (ps_if (PW.pt (pw_or (pt_not (pt_val (pe_c (cal_is_integer T hN hT) hr (by decide) (by rfl) (pa_cons (pv 0) pa_nil)))) (pw_or1 (pt_not (pt_chain op_le op_le pe_int (pv 0) (pv 1))))))
      (pss_one (L2N.ps_raise rfl (L2N.takes_of rfl rfl rfl rfl) (pmk_oexN T.oX_Refused T.nI_Refused T.jI_Refused (ok_Refused_init T hN hT) (hr.mono (by decide)) T.b_Refused_init .nil pass0 (by rfl) T.gX_Refused (pa_cons pe_str pa_nil))))
      pss_nil)), ?_⟩
    refine ⟨_, rfl, v, rfl, true, rfl, ?_⟩
    refine iteF ?_
    refine ⟨_, rfl, _, _, rfl, rfl, _, rfl, ?_⟩
    by_cases h1 : 1 ≤ v
    · rw [decide_eq_true h1]
      refine iteT ?_
      refine ⟨_, rfl, _, _, rfl, rfl, _, rfl, ?_⟩
      by_cases h2 : v ≤ m
      · rw [decide_eq_true h2]
        rcases q with ⟨_, _, q⟩ | ⟨z, _⟩
        · exact iteF q
        · exact absurd ⟨h1, h2⟩ z
      · rw [decide_eq_false h2]
        rcases q with ⟨_, z, _⟩ | ⟨_, er⟩
        · exact absurd z h2
        · exact iteT ⟨by decide, fun a na => made_ref er a na⟩
    · rw [decide_eq_false h1]
      refine iteF ?_
      rcases q with ⟨z, _⟩ | ⟨_, er⟩
      · exact absurd z h1
      · refine ⟨_, rfl, ?_⟩
        exact iteT ⟨by decide, fun a na => made_ref er a na⟩
def sp_sublattices_X (X : Addr) : Sp := fun vs H Q E => ∃ (n i : Int), vs = [.int n, .int i] ∧ ¬ ((1 ≤ n ∧ n ≤ 4) ∧ (1 ≤ i ∧ i ≤ 60)) ∧ ERef E X "large" H
theorem ok_sublattices_X (T : Top K mg) (hN : base.NoSeer) (hT : P.given.tree = none) : FnOk P w K mg base (L2N.CX P w) 46 T.a_sublattices T.d_sublattices ["n", "index"] (sp_sublattices_X T.X_Refused) := by
  refine okN T.F_sublattices sc_sublattices (fun vs H Q E h => ?_) (fun cdv A outer s H vs Q E hr h => ?_)
  · obtain ⟨n, i, rfl, _⟩ := h
    rfl
  · obtain ⟨n, i, rfl, bad, er⟩ := h
    refine ⟨_, (pss_cons (ps_expr (pe_call (E := E) (ok_check_number_X T hN hT) (hr.mono (by decide)) (by rfl) T.g_check_number T.F_check_number.kp T.b_check_number .nil (L2N.passes_call (L2N.takes_of rfl rfl rfl rfl) (fun _ _ _ _ h => h)) (pa_cons (pv 0) (pa_cons (pe_glob (v := V.int 4) (by rfl) T.g_MOST_SIZE ⟨_, rfl⟩) pa_nil))))
      (pss_cons (ps_expr (pe_call (E := E) (ok_check_number_X T hN hT) (hr.mono (by decide)) (by rfl) T.g_check_number T.F_check_number.kp T.b_check_number .nil (L2N.passes_call (L2N.takes_of rfl rfl rfl rfl) (fun _ _ _ _ h => h)) (pa_cons (pv 1) (pa_cons (pe_glob (v := V.int 60) (by rfl) T.g_MOST_INDEX ⟨_, rfl⟩) pa_nil))))
      (pss_cons ps_never
      (pss_one ps_never)))), ?_⟩
    by_cases h1 : 1 ≤ n ∧ n ≤ 4
    · refine ⟨_, rfl, n, 4, rfl, .inl ⟨h1.1, h1.2, ?_⟩⟩
      exact ⟨_, rfl, i, 60, rfl, .inr ⟨fun h2 => bad ⟨h1, h2⟩, er⟩⟩
    · exact ⟨_, rfl, n, 4, rfl, .inr ⟨h1, er⟩⟩

end
end K44
namespace K44
open PySem PySem.Spec PyProof.Rows L2 Gm
open C8 (Cal Met Mak pe_c pe_mt pe_mt0 pe_mk)
section
variable {P : Program} {w : World} {K : PySem.W.Frag} {mg : Str → Option Value} {base : Heap}
theorem exm1 {K : PySem.W.Frag} {S : Addr} (h1 : PySem.W.subIn K (.ref S) (.type "BaseException") = some true) (h2 : PySem.W.isClsIn K S = true) (h3 : PySem.W.typeIn K (.ref S) = some (.type "type")) (h4 : PySem.W.subIn K (.ref S) (.ref S) = some true) :
    PySem.W.exmOne K (.ref S) (.ref S) = some true := by
  have e1 : (PySem.W.subIn K (.ref S) (.type "BaseException") == some true) = true := by rw [h1] <;> rfl
  have e2 : ((PySem.W.clsIn K S).isSome && PySem.W.typeIn K (.ref S) == some (.type "type")) = true := by
    have h2' : (PySem.W.clsIn K S).isSome = true := h2
    rw [h2', h3] <;> rfl
  show (if (PySem.W.subIn K (.ref S) (.type "BaseException") == some true) = true then (if ((PySem.W.clsIn K S).isSome && PySem.W.typeIn K (.ref S) == some (.type "type")) = true then PySem.W.subIn K (.ref S) (.ref S) else none) else none) = some true
  rw [if_pos e1, if_pos e2]
  exact h4
theorem takes0N {X : Cx} : L2N.Takes X (fun _ _ _ _ => False) := fun _ _ x => by
  obtain ⟨_, _, _, _, _, _, _, _, _, _, _, _, _, _, _, _, w⟩ := x
  exact w.elim
def sp_law_refused (K : PySem.W.Frag) : Sp := fun vs H Q _ => ∃ (n i : Int), vs = [.int n, .int i] ∧ ¬ ((1 ≤ n ∧ n ≤ 4) ∧ (1 ≤ i ∧ i ≤ 60)) ∧ ∀ H', Same H H' → Q (.bl true) H'
theorem ok_law_refused (T : Top K mg) (hN : base.NoSeer) (hT : P.given.tree = none) : FnOk P w K mg base CX0 47 T.a_law_refused T.d_law_refused ["n", "index"] (sp_law_refused K) := by
  refine T.F_law_refused.ok sc_law_refused (fun vs H Q E h => ?_) (fun cdv A outer s H vs Q E hr h => ?_)
  · obtain ⟨n, i, rfl, _⟩ := h
    rfl
  · obtain ⟨n, i, rfl, bad, q⟩ := h
    refine ⟨_, (pss_cons (L2N.ps_try_as (i := 2) (Wout := fun _ _ _ _ => False) rfl rfl sc_law_refused.nd rfl rfl ⟨rfl, by decide, Or.inl T.gX_Refused⟩ takes0N (fun W pn xe tk _ => (pss_one (ps_expr (pe_callS (E := WE W) (ok_sublattices_X T hN hT) (hr.mono (by decide)) (by rfl) T.g_sublattices T.F_sublattices.kp T.b_sublattices (fun σ => L2N.passAt tk σ) (pa_cons (pv 0) (pa_cons (pv 1) pa_nil)))))) (fun a oe cls d pn hz hf => (pss_one (ps_ret (pe_cmpR op_eq (pe_xf T.fX_Refused T.nf_Refused hz.zc hf (pv 2)) pe_str (nomark _))))))
      (pss_one ps_never)), ?_⟩
    refine ⟨_, rfl, _, rfl, n, i, rfl, bad, fun d H1 s1 hd => ?_⟩
    refine ⟨true, exm1 T.bX_Refused T.iX_Refused T.tX_Refused T.sX_Refused, fun _ a na => ?_, fun z => (nomatch z)⟩
    refine ⟨_, rfl, rfl, rfl, d, _, _, rfl, hd, rfl, rfl, ?_⟩
    rw [decide_eq_true (rfl : V.str ("large" : Str) = V.str ("large" : Str))]
    exact q H1 s1
theorem cal_law_refused (T : Top K mg) (hN : base.NoSeer) (hT : P.given.tree = none) : Cal P w K mg base 47 "_law_refused" (sp_law_refused K) [] := ⟨⟨_, _, _, [], ok_law_refused T hN hT, T.g_law_refused, T.F_law_refused.kp, T.b_law_refused, .nil⟩⟩

end
end K44
namespace K44
open PySem PySem.Spec PyProof.Rows L2 Gm
open C8 (Cal Met Mak pe_c pe_mt pe_mt0 pe_mk)
section
variable {P : Program} {w : World} {K : PySem.W.Frag} {mg : Str → Option Value} {base : Heap}
/-! ### the product by a list of rows -/
def sp_law_product_L (K : PySem.W.Frag) : Sp := fun vs H Q _ => ∃ (va vb : V) (a b : List (List Int)) (wd B1 B2 : Nat), vs = [va, vb, .int wd] ∧ TRows K H va a ∧ (∃ (pb : Addr) (wb : List V), vb = .ref pb ∧ SqL K H pb wb ∧ Paired (TRow K H) wb b) ∧ a.length ≤ 1000 ∧ b.length ≤ 1000 ∧ wd ≤ 1000 ∧ (∀ r ∈ a, r.length = b.length) ∧ (∀ r ∈ b, r.length = wd) ∧
  (∀ r ∈ a, Bits B1 r) ∧ (∀ r ∈ b, Bits B2 r) ∧ B1 + B2 ≤ 134217728 ∧ ∀ v' H', Same H H' → TRows K H' v' (mulM a b wd) → Q v' H'
theorem ok_law_product_L (T : Top K mg) (hN : base.NoSeer) (hT : P.given.tree = none) : FnOk P w K mg base CX0 1 T.a_law_product T.d_law_product ["a", "b", "width"] (sp_law_product_L K) := by
  refine T.F_law_product.ok sc_law_product (fun vs H Q E h => ?_) (fun cdv A outer s H vs Q E hr h => ?_)
  · obtain ⟨va, vb, a, b, wd, B1, B2, rfl, _⟩ := h
    rfl
  · obtain ⟨va, vb, a, b, wd, B1, B2, rfl, ⟨pa, wa, rfl, ha, hpa⟩, ⟨pb, wb, rfl, hb, hpb⟩, la, lb, hwd, ra, rb, ba, bb, hB, q⟩ := h
    have lwa := Paired.length hpa
    have lwb := Paired.length hpb
    refine ⟨_, (pss_cons (ps_set (i := 3) sc_law_product.nd rfl (by first | exact .inl rfl | exact .inr rfl) (pe_lst pa_nil))
      (pss_cons (ps_for PassesOwn.never rfl (piT K rfl (pv 0)) (pg_name (i := 4) sc_law_product.nd rfl (by first | exact .inl rfl | exact .inr rfl))
      (pss_cons (ps_set (i := 5) sc_law_product.nd rfl (by first | exact .inl rfl | exact .inr rfl) (pe_lst pa_nil))
      (pss_cons (ps_for PassesOwn.never rfl (pi_range1 (by rfl) T.z_range (pa_cons (pv 2) pa_nil)) (pg_name (i := 6) sc_law_product.nd rfl (by first | exact .inl rfl | exact .inr rfl))
      (pss_cons (ps_set (i := 7) sc_law_product.nd rfl (by first | exact .inl rfl | exact .inr rfl) pe_int)
      (pss_cons (ps_for PassesOwn.never rfl (pi_range1 (by rfl) T.z_range (pa_cons (pe_callB (lenS K rfl) (by rfl) T.z_len (by decide +kernel) (pa_cons (pv 1) pa_nil)) pa_nil)) (pg_name (i := 8) sc_law_product.nd rfl (by first | exact .inl rfl | exact .inr rfl))
      (pss_one (ps_set (i := 7) sc_law_product.nd rfl (by first | exact .inl rfl | exact .inr rfl) (pe_op op_add (pv 7) (pe_op op_mulX (pe_ix (ixT K rfl) (pv 4) (pv 8) (fun _ _ => rfl)) (pe_ix (ixT K rfl) (pe_ix (ixL K rfl) (pv 1) (pv 8) (fun _ _ => rfl)) (pv 6) (fun _ _ => rfl)))))))
      (pss_one (ps_expr (pe_bm PySem.F.plainAttrs_list PySem.F.slot_list_append PySem.F.type_list_append mt_append (pv 5) (pa_cons (pv 7) pa_nil)))))))
      (pss_one (ps_expr (pe_bm PySem.F.plainAttrs_list PySem.F.slot_list_append PySem.F.type_list_append mt_append (pv 3) (pa_cons (pe_callTy (tupK K rfl) (by rfl) T.z_tuple (by decide +kernel) (pa_cons (pv 5) pa_nil)) pa_nil)))))))
      (pss_one (ps_ret (pe_callTy (tupK K rfl) (by rfl) T.z_tuple (by decide +kernel) (pa_cons (pv 3) pa_nil)))))), ?_⟩
    -- out = []
    refine ⟨by show 0 ≤ sizeLine; decide, fun R nR => ?_⟩
    have s0 : Same H (upd H R (.lst [])) := same_upd nR
    refine ⟨_, rfl, pa, rfl, ⟨wa, Same.seqT s0 ha⟩, ?_⟩
    generalize hH0 : upd H R (.lst []) = H0 at s0
    have eR0 : H0 R = some (.lst []) := by rw [← hH0, upd_same]
    refine for_it (walk_tup (xs := wa)) (fun i σ H2 => ∃ y4 y5 y6 y7 y8, σ = [some (.ref pa), some (.ref pb), some (.int wd), some (.ref R), y4, y5, y6, y7, y8] ∧ Same H H2 ∧ ∃ l, H2 R = some (.lst l) ∧ Paired (TRow K H2) l ((mulM a b wd).take i)) ⟨_, _, _, _, _, rfl, s0, [], eR0, .nil⟩ (fun i σ H2 _ ⟨_, _, _, _, _, _, s2, _⟩ => Same.seqT s2 ha) ?_ ?_
    · rintro i x σ H2 H2' hi ⟨y4, y5, y6, y7, y8, rfl, s2, l, eR, hl⟩ ⟨rfl, ex⟩
      obtain ⟨r, er, pr, rfl, hpr⟩ := Paired.getR hpa ex
      have hrm := List.mem_of_getElem? er
      have hrl := ra r hrm
      have eg : (mulM a b wd)[i]? = some ((transp b wd).map fun c => dotI r c) := by
        unfold mulM
        rw [List.getElem?_map, er]
        rfl
      have hll := Paired.length hl
      rw [List.length_take] at hll
      -- line = []
      refine ⟨by show 0 ≤ sizeLine; decide, fun L nL => ?_⟩
      have s3 : Same H2' (upd H2' L (.lst [])) := same_upd nL
      -- for k in range(width)
      refine ⟨_, rfl, (wd : Int), rfl, by omega, by omega, ?_⟩
      refine for_it walk_range (fun k σ H3 => ∃ y6 y7 y8, σ = [some (.ref pa), some (.ref pb), some (.int wd), some (.ref R), some (.ref pr), some (.ref L), y6, y7, y8] ∧ Same H2' H3 ∧ H3 L = some (.lst ((((transp b wd).map fun c => dotI r c).take k).map V.int))) ⟨_, _, _, rfl, s3, by rw [upd_same]; rfl⟩ (fun _ _ _ _ _ => trivial) ?_ ?_
      · rintro k x σ H3 H3' hk ⟨y6, y7, y8, rfl, s4, eL⟩ ⟨rfl, rfl⟩
        have hk' : k < wd := by omega
        have sb := s2.trans s4
        -- for j in range(len(b))
        refine ⟨_, rfl, pb, _, rfl, .inl (Same.seq sb hb), _, rfl, by omega, by omega, ?_⟩
        refine for_it walk_range (fun j σ H4 => ∃ y8, σ = [some (.ref pa), some (.ref pb), some (.int wd), some (.ref R), some (.ref pr), some (.ref L), some (.int (0 + (k : Int))), some (.int ((List.zipWith (· * ·) r (b.map fun r => r.getD k 0)).take j).sum), y8] ∧ H4 = H3') ⟨_, rfl, rfl⟩ (fun _ _ _ _ _ => trivial) ?_ ?_
        · rintro j x σ H4 H4' hj ⟨y8, rfl, rfl⟩ ⟨rfl, rfl⟩
          have hj' : j < b.length := by omega
          have hjr : j < r.length := by omega
          obtain ⟨vb, evb, qb, rfl, hqb⟩ := Paired.getR (Paired.swap hpb) (List.getElem?_eq_getElem hj')
          have hbl := rb _ (List.getElem_mem hj')
          have hkb : k < (b[j]).length := by omega
          refine ⟨_, rfl, _, rfl, _, rfl, pr, _, _, _, rfl, rfl, Same.seqT sb hpr, at_of (j := j) (by omega) (ints_at (List.getElem?_eq_getElem hjr)), ?_⟩
          refine ⟨_, rfl, _, rfl, pb, wb, _, _, rfl, rfl, Same.seq sb hb, at_of (j := j) (by omega) evb, _, rfl, qb, _, _, _, rfl, rfl, Same.seqT sb hqb, at_of (j := k) (by omega) (ints_at (List.getElem?_eq_getElem hkb)), ?_⟩
          refine ⟨_, _, rfl, rfl, mulx_ok (ba r hrm _ (List.getElem_mem hjr)) (bb _ (List.getElem_mem hj') _ (List.getElem_mem hkb)) hB, _, _, rfl, rfl, ?_⟩
          refine ⟨some (.int (0 + (j : Int))), ?_, rfl⟩
          have ez : (List.zipWith (· * ·) r (b.map fun r => r.getD k 0))[j]? = some (r[j] * (b[j])[k]) := by
            rw [List.getElem?_zipWith, List.getElem?_eq_getElem hjr, List.getElem?_map, List.getElem?_eq_getElem hj']
            show some (r[j] * (b[j]).getD k 0) = _
            rw [List.getD_eq_getElem?_getD, List.getElem?_eq_getElem hkb]
            rfl
          rw [sum_take ez]
          rfl
        · rintro σ H4 ⟨y8, rfl, rfl⟩
          -- line.append(total)
          refine ⟨_, rfl, .inl ⟨rfl, _, .inl (.inl eL)⟩, _, rfl, L, _, _, rfl, rfl, eL, small1000 (by rw [List.length_map, List.length_take, List.length_map, transp_len]; omega), ?_⟩
          refine ⟨_, _, _, rfl, fun c o h => ?_, ?_⟩
          · rw [upd_ne (ne_of_none h nL)]
            exact s4 _ _ h
          · rw [upd_same, List.take_of_length_le (l := List.zipWith (· * ·) r (b.map fun r => r.getD k 0)) (by rw [List.length_zipWith, List.length_map]; omega)]
            have ec : ((transp b wd).map fun c => dotI r c)[k]? = some (dotI r (b.map fun r => r.getD k 0)) := by
              unfold transp
              rw [List.getElem?_map, List.getElem?_map, List.getElem?_range hk']
              rfl
            rw [List.take_add_one, ec, List.map_append]
            rfl
      · rintro σ H3 ⟨y6, y7, y8, rfl, s4, eL⟩
        rw [List.take_of_length_le (by rw [List.length_map, transp_len]; omega)] at eL
        -- out.append(tuple(line))
        have eR3 := s4 _ _ eR
        refine ⟨_, rfl, .inl ⟨rfl, _, .inl (.inl eR3)⟩, _, rfl, L, _, rfl, .inl ⟨.inl (.inl eL), fun t nt => ?_⟩⟩
        have st := same_upd (o := .tup (((transp b wd).map fun c => dotI r c).map V.int)) nt
        have eR4 := st _ _ eR3
        refine ⟨R, l, _, rfl, rfl, eR4, small1000 (by omega), ?_⟩
        have htR : t ≠ R := by
          rintro rfl
          rw [eR3] at nt
          cases nt
        refine ⟨_, _, _, _, _, rfl, fun c o h => ?_, l ++ [.ref t], upd_same, ?_⟩
        · rw [upd_ne (ne_of_none h nR)]
          exact st _ _ (s4 _ _ (s2 _ _ h))
        · rw [List.take_add_one, eg]
          refine Paired.snoc (L2.Paired.mapP hl fun _ _ r => TRow.off eR4 Off.upd (TRow.same st (TRow.same s4 r))) ⟨t, rfl, .inl (.inl ?_)⟩
          rw [upd_ne htR, upd_same]
    · rintro σ H2 ⟨y4, y5, y6, y7, y8, rfl, s2, l, eR, hl⟩
      refine ⟨_, rfl, R, l, rfl, .inl ⟨.inl (.inl eR), fun t nt => ?_⟩⟩
      refine q _ _ (s2.trans (same_upd nt)) ⟨t, l, rfl, .inl (.inl upd_same), ?_⟩
      rw [List.take_of_length_le (by rw [mulM_len]; omega)] at hl
      exact L2.Paired.mapP hl fun _ _ => TRow.same (same_upd nt)
theorem cal_law_product_L (T : Top K mg) (hN : base.NoSeer) (hT : P.given.tree = none) : Cal P w K mg base 1 "_law_product" (sp_law_product_L K) [] := ⟨⟨_, _, _, [], ok_law_product_L T hN hT, T.g_law_product, T.F_law_product.kp, T.b_law_product, .nil⟩⟩

end
end K44
namespace K44
open PySem PySem.Spec PyProof.Rows L2 Gm
open C8 (Cal Met Mak pe_c pe_mt pe_mt0 pe_mk)
section
variable {P : Program} {w : World} {K : PySem.W.Frag} {mg : Str → Option Value} {base : Heap}
theorem pss_wk {X : Cx} {st : List Stmt} {t t' : TS} (h : PSs X st t) (hm : ∀ D σ H, t' D σ H → t D σ H) : PSs X st t' := ⟨fun pins s σ H D I q => h.run pins s σ H D I (hm D σ H q)⟩
def tK (M : L2.St → Hp → Prop) : TS := fun D σ H => M σ H ∧ ∀ H', D.rt (.bl true) H'
abbrev XL (P : Program) (w : World) {K : PySem.W.Frag} {mg : Str → Option Value} (base : Heap) (T : Top K mg) (cdv : Value) (A : Around) (outer : List Env) (s : Shared) (H : Hp) (E : XK) : Cx :=
  (cxOf CX0 P w K mg base ["script", "state", "n", "index", "found", "due", "grid", "rest", "rows", "i", "heads", "head", "mixed_v", "k"] "law" (defScope s_law) T.a_law cdv A outer s H E).nox
def sp_law (K : PySem.W.Frag) : Sp := fun vs H Q _ => ∃ (a : Addr) (ns : List Int), vs = [.ref a] ∧ SqL K H a (ns.map V.int) ∧ ns.length ≤ 63 ∧ (∀ z ∈ ns, Builtin.Int.intBits z ≤ 1048576) ∧ ∀ H', Q (.bl true) H'
theorem gridS {K : PySem.W.Frag} {C : Addr} {H H' : Hp} {p : Addr} {v : V} {m : List (List Int)} {w : Nat} (st : StAt H p) (o : Off p H H') (h : IsGrid K C H v m w) : IsGrid K C H' v m w := by
  obtain ⟨⟨q, dx, t, e, ho, ht⟩, hw⟩ := h
  obtain ⟨s0, t0, el, _⟩ := st
  exact ⟨⟨q, dx, t, e, o _ _ (ne_of ho el (by intro z; cases z)) ho, ht.off el o⟩, hw⟩
theorem rowS {K : PySem.W.Frag} {H H' : Hp} {p : Addr} {v : V} {x : List Int} (st : StAt H p) (o : Off p H H') (h : TRow K H v x) : TRow K H' v x := let ⟨_, _, el, _⟩ := st; TRow.off el o h

end
end K44
namespace K44
open PySem PySem.Spec PyProof.Rows L2 Gm
open C8 (Cal Met Mak pe_c pe_mt pe_mt0 pe_mk)
section
variable {P : Program} {w : World} {K : PySem.W.Frag} {mg : Str → Option Value} {base : Heap}
/-! ### the law's last statements -/
theorem uni_sq {n : Nat} {m : List (List Int)} (U : UniT n 4 m) : Sq n 10 m := ⟨U.sz.len, U.sz.row, fun r hr x hx => by
  have h1 := l1_at hx
  have h2 := U.l1 r hr
  show x.natAbs < 2 ^ 10
  have : 3 ^ 4 = 81 := rfl
  omega⟩
theorem dot_l1 {B : Nat} : ∀ {x y : List Int}, (∀ b ∈ y, b.natAbs ≤ B) → (dotI x y).natAbs ≤ l1 x * B
  | [], _, _ => Nat.zero_le _
  | a :: x, [], _ => Nat.zero_le _
  | a :: x, b :: y, hy => by
    have e : dotI (a :: x) (b :: y) = a * b + dotI x y := rfl
    have i1 := dot_l1 (x := x) (y := y) (fun z hz => hy z (List.mem_cons_of_mem _ hz))
    have i2 : (a * b).natAbs ≤ a.natAbs * B := by
      rw [Int.natAbs_mul]
      exact Nat.mul_le_mul_left _ (hy b (List.mem_cons_self ..))
    have e2 : l1 (a :: x) = a.natAbs + l1 x := by simp [l1]
    rw [e, e2, Nat.add_mul]
    have := Int.natAbs_add_le (a * b) (dotI x y)
    omega
theorem HB14 {h : Nat} (hh : h ≤ 4) : HB 14 h := by
  rcases (show h = 0 ∨ h = 1 ∨ h = 2 ∨ h = 3 ∨ h = 4 by omega) with rfl | rfl | rfl | rfl | rfl <;> exact ⟨by decide, by decide⟩
theorem transp_le60 {M : Nat} {A : List (List Int)} {w : Nat} (h : ∀ r ∈ A, ∀ x ∈ r, x.natAbs ≤ M) : ∀ o ∈ transp A w, ∀ x ∈ o, x.natAbs ≤ M := fun o ho x hx => by
  obtain ⟨j, _, rfl⟩ := List.mem_map.mp ho
  obtain ⟨r, hr, rfl⟩ := List.mem_map.mp hx
  by_cases hj : j < r.length
  · rw [List.getD_eq_getElem?_getD, List.getElem?_eq_getElem hj]
    exact h r hr _ (List.getElem_mem hj)
  · rw [getD_none (by omega)]
    exact Nat.zero_le _
theorem mul_small14 {U A : List (List Int)} {n w : Nat} (hU : UniT n 4 U) (hA : ∀ r ∈ A, ∀ x ∈ r, x.natAbs ≤ 60) : ∀ r ∈ mulM U A w, Cost 14 r := fun r hr z hz => by
  obtain ⟨u, hu, rfl⟩ := List.mem_map.mp hr
  obtain ⟨o, ho, rfl⟩ := List.mem_map.mp hz
  have h1 := dot_l1 (x := u) (transp_le60 hA o ho)
  have h2 := hU.l1 u hu
  have h3 : l1 u * 60 ≤ 3 ^ 4 * 60 := Nat.mul_le_mul_right _ h2
  have e1 : 3 ^ 4 * 60 = 4860 := rfl
  have e2 : 2 ^ 14 = 16384 := rfl
  omega
structure F10 (K : PySem.W.Frag) (C : Addr) (H : Hp) (p f rw : Addr) (n i : Nat) (R : List (List Int)) : Prop where
  st : StAt H p
  sz : SizeOk n i
  fd : ∃ lf, SqT K H f lf ∧ Paired (fun v m => IsGrid K C H v m n) lf (sortM (foundN n i))
  nrp : rw ≠ p
  rows : ∃ lr, H rw = some (.lst lr) ∧ Paired (TRow K H) lr R
  sR : Sz n R
  up : ∀ a b, b < a → ent R a b = 0
  dg : diagP 0 R = (i : Int)
  bd : ∀ r ∈ R, ∀ x ∈ r, x.natAbs ≤ 60
def M10 (K : PySem.W.Frag) (C : Addr) : L2.St → Hp → Prop := fun σ H => ∃ (s0 s5 s6 s7 s9 s10 s11 : Option V) (p f rw : Addr) (n i : Nat) (R : List (List Int)),
  σ = [s0, some (.ref p), some (.int (n : Int)), some (.int (i : Int)), some (.ref f), s5, s6, s7, some (.ref rw), s9, s10, s11, none, none] ∧ F10 K C H p f rw n i R
theorem ch10 (T : Top K mg) (hN : base.NoSeer) (hT : P.given.tree = none) {cdv : Value} {A : Around} {outer : List Env} {s : Shared} {H0 : Hp} {E : XK} (hr : Room 48 (A.deeper (envOfC "law" (defScope s_law) s.heap.objs.size T.a_law cdv))) :
    PSs (XL P w base T cdv A outer s H0 E) ((defBody s_law).drop 10) (tK (M10 K T.C_Grid)) := by
  refine pss_wk ((pss_cons (ps_set (i := 12) sc_law.nd rfl (by first | exact .inl rfl | exact .inr rfl) (pe_c (cal_law_product_L T hN hT) hr (by decide) (by rfl) (pa_cons (pe_c (cal_law_unimodular T hN hT) hr (by decide) (by rfl) (pa_cons (pv 1) (pa_cons (pv 2) pa_nil))) (pa_cons (pv 8) (pa_cons (pv 2) pa_nil)))))
      (pss_cons (ps_if (pt_cmpR (op_notInOwn (E := L2.E0) (ok_Grid_eq T hN hT) T.m_Grid_eq.at_ T.m_Grid_eq.fn T.b_Grid_eq pass0 (hr.mono (by decide))) (pe_ix (ixT K rfl) (pe_mt0 (met_Grid_hermite T hN hT) hr (by decide) (pe_mk (mak_Grid T hN hT) hr (by decide) (by rfl) (pa_cons (pv 12) (pa_cons (pv 2) pa_nil)))) pe_int (fun _ _ => rfl)) (pv 4) (by with_unfolding_all rfl))
      (pss_one (ps_ret pe_bl))
      pss_nil)
      (pss_one (ps_ret (pe_and (pe_c (cal_law_refused T hN hT) hr (by decide) (by rfl) (pa_cons pe_int (pa_cons pe_int pa_nil))) (pe_and (pe_c (cal_law_refused T hN hT) hr (by decide) (by rfl) (pa_cons pe_int (pa_cons pe_int pa_nil))) (pe_and (pe_c (cal_law_refused T hN hT) hr (by decide) (by rfl) (pa_cons pe_int (pa_cons pe_int pa_nil))) (pe_and (pe_c (cal_law_refused T hN hT) hr (by decide) (by rfl) (pa_cons pe_int (pa_cons pe_int pa_nil))) (pe_and (pe_c (cal_law_refused T hN hT) hr (by decide) (by rfl) (pa_cons pe_int (pa_cons pe_int pa_nil))) (pe_one (pe_c (cal_law_refused T hN hT) hr (by decide) (by rfl) (pa_cons pe_int (pa_cons pe_int pa_nil)))))))))))))) ?_
  rintro D σ H ⟨⟨s0, s5, s6, s7, s9, s10, s11, p, f, rw, n, i, R, rfl, F⟩, q⟩
  obtain ⟨st, sz, ⟨lf, hf, hpf⟩, nrp, ⟨lr, hrw, hpr⟩, sR, up, dg, bd⟩ := F
  obtain ⟨n1, n4, i1, i60⟩ := sz.n1
  refine ⟨_, rfl, _, rfl, p, n, rfl, st, n4, fun uv U H1 o1 st1 hU Un => ?_⟩
  have hrw1 : H1 rw = some (.lst lr) := o1 _ _ nrp hrw
  have hpr1 : Paired (TRow K H1) lr R := L2.Paired.mapP hpr fun _ _ h => rowS st o1 h
  have uq := uni_sq Un
  refine ⟨_, rfl, _, rfl, uv, .ref rw, U, R, n, 10, 6, rfl, hU, ⟨rw, lr, rfl, .inl (.inl hrw1), hpr1⟩, by rw [uq.len]; omega, by rw [sR.len]; omega, by omega, fun r hx => (uq.row r hx).trans sR.len.symm, sR.row, uq.bits, fun r hx z hz => by have := bd r hx z hz; show z.natAbs < 64; omega, by decide, fun mv H2 s2 hm => ?_⟩
  have lm : (mulM U R n).length = n := by rw [mulM_len, uq.len]
  have sm : Sz n (mulM U R n) := mulM_sz uq.len
  refine ⟨_, rfl, _, rfl, ?_⟩
  intro xg xd nx nd ne
  refine make_grid2 (C := T.C_Grid) (m := mulM U R n) (w := n) nx nd (irows_t hm) (by omega) (by omega) sm.row fun H3 s3 G3 => ⟨rfl, ?_⟩
  obtain ⟨⟨_, d3, t3, e3, ho3, ht3⟩, _⟩ := id G3
  cases e3
  refine ⟨xg, d3, _, rfl, ho3, m_hermite _ _, .ref xg, mulM U R n, n, 14, rfl, G3, by omega, by omega, by decide, mul_small14 Un bd, by rw [lm]; exact HB14 n4, fun TT tp hv uv2 H4 s4 FF hc htp Gh Gu => ?_⟩
  rw [lm] at FF
  have hmem : hM n TT ∈ sortM (foundN n i) := by
    have hd : (detL n (mulM U R n)).natAbs = i := by
      rw [det_mul n4 uq.sz sR, det_up n4 sR up, dg, Int.natAbs_mul, Un.det, Nat.one_mul, Int.natAbs_natCast]
    exact (sortM_perm _).mem_iff.mpr ((perm_all sz).mem_iff.mpr (herm_mem n4 sm i1 hd FF))
  refine ⟨tp, _, 0, hv, rfl, rfl, htp, atI_nat (j := 0) rfl, ?_⟩
  have hf4 : SqT K H4 f lf := by
    obtain ⟨s0', t0', el, _⟩ := id st
    exact Same.seqT (s2.trans (s3.trans s4)) (sqT_off el o1 hf)
  have hpf4 : Paired (fun v m => IsGrid K T.C_Grid H4 v m n) lf (sortM (foundN n i)) := L2.Paired.mapP hpf fun _ _ h => IsGrid.same (s2.trans (s3.trans s4)) (gridS st o1 h)
  obtain ⟨⟨hb, hdx, ht, rfl, hoh, hth⟩, _⟩ := id Gh
  refine ⟨_, rfl, f, hb, lf, hdx, _, fun z => IsGrid K T.C_Grid H4 z (hM n TT) n, rfl, rfl, hf4, hoh, fun z hz => ?_, ?_, ?_⟩
  · by_cases pz : IsGrid K T.C_Grid H4 z (hM n TT) n
    · obtain ⟨⟨a, dx, t, rfl, ha, hta⟩, _⟩ := id pz
      refine ⟨a, dx, _, rfl, ha, true, fun _ => rfl, .ref a, hM n TT, n, .ref hb, hM n TT, rfl, pz, .inl ⟨n, Gh, ?_, rfl⟩⟩
      rw [decide_eq_true ⟨rfl, rfl⟩]
    · obtain ⟨k, ek⟩ := List.getElem?_of_mem hz
      obtain ⟨m, em, gm⟩ := Paired.getR hpf4 ek
      obtain ⟨⟨a, dx, t, rfl, ha, hta⟩, _⟩ := id gm
      exact ⟨a, dx, _, rfl, ha, decide (m = hM n TT ∧ n = n), fun h => absurd h pz, .ref a, m, n, .ref hb, hM n TT, rfl, gm, .inl ⟨n, Gh, rfl, rfl⟩⟩
  · obtain ⟨k, ek⟩ := List.getElem?_of_mem hmem
    obtain ⟨z, ez, gz⟩ := Paired.getL hpf4 ek
    exact ⟨z, List.mem_of_getElem? ez, gz⟩
  refine ⟨_, rfl, ?_⟩
  refine iteF ?_
  refine ⟨0, 1, rfl, by omega, fun Ha sa => ⟨true, rfl, iteT ?_⟩⟩
  refine ⟨5, 1, rfl, by omega, fun Hb sb => ⟨true, rfl, iteT ?_⟩⟩
  refine ⟨1, 61, rfl, by omega, fun Hc sc => ⟨true, rfl, iteT ?_⟩⟩
  refine ⟨3, 61, rfl, by omega, fun Hd sd => ⟨true, rfl, iteT ?_⟩⟩
  refine ⟨4, 61, rfl, by omega, fun He se => ⟨true, rfl, iteT ?_⟩⟩
  exact ⟨2, 0, rfl, by omega, fun Hf sf => q Hf⟩

end
end K44
namespace K44
open PySem PySem.Spec PyProof.Rows L2 Gm
open C8 (Cal Met Mak pe_c pe_mt pe_mt0 pe_mk)
section
variable {P : Program} {w : World} {K : PySem.W.Frag} {mg : Str → Option Value} {base : Heap}
/-! ### the loop of the law -/
theorem diagP_snoc : ∀ (R : List (List Int)) (a : Nat) (r : List Int), diagP a (R ++ [r]) = diagP a R * r.getD (a + R.length) 0
  | [], a, r => by
    show r.getD a 0 * 1 = 1 * r.getD (a + 0) 0
    rw [Int.mul_one, Int.one_mul]
    rfl
  | q :: R, a, r => by
    show q.getD a 0 * diagP (a + 1) (R ++ [r]) = q.getD a 0 * diagP (a + 1) R * r.getD (a + (R.length + 1)) 0
    rw [diagP_snoc R (a + 1) r, Int.mul_assoc, show a + (R.length + 1) = a + 1 + R.length by omega]
structure Fl (K : PySem.W.Frag) (C : Addr) (H : Hp) (p f rw : Addr) (n i t ρ : Nat) (R : List (List Int)) : Prop where
  st : StAt H p
  sz : SizeOk n i
  fd : ∃ lf, SqT K H f lf ∧ Paired (fun v m => IsGrid K C H v m n) lf (sortM (foundN n i))
  nrp : rw ≠ p
  rows : ∃ lr, H rw = some (.lst lr) ∧ Paired (TRow K H) lr R
  len : R.length = t
  tn : t ≤ n
  r1 : 1 ≤ ρ
  r60 : ρ ≤ 60
  rn : t = n → ρ = 1
  row : ∀ r ∈ R, r.length = n
  up : ∀ a b, b < a → ent R a b = 0
  dg : diagP 0 R * (ρ : Int) = (i : Int)
  bd : ∀ r ∈ R, ∀ x ∈ r, x.natAbs ≤ 60
section
variable {K : PySem.W.Frag} {C : Addr} {H H' : Hp} {p f rw D : Addr} {n i t ρ : Nat} {R : List (List Int)} {acc : List V}
theorem Fl.same (s : Same H H') (F : Fl K C H p f rw n i t ρ R) : Fl K C H' p f rw n i t ρ R := by
  obtain ⟨st, sz, ⟨lf, h1, h2⟩, nrp, ⟨lr, h3, h4⟩, a1, a2, a3, a4, a5, a6, a7, a8, a9⟩ := F
  exact ⟨st.same s, sz, ⟨lf, Same.seqT s h1, L2.Paired.mapP h2 fun _ _ h => IsGrid.same s h⟩, nrp, ⟨lr, s _ _ h3, L2.Paired.mapP h4 fun _ _ h => TRow.same s h⟩, a1, a2, a3, a4, a5, a6, a7, a8, a9⟩
theorem Fl.off (o : Off p H H') (st' : StAt H' p) (F : Fl K C H p f rw n i t ρ R) : Fl K C H' p f rw n i t ρ R := by
  obtain ⟨st, sz, ⟨lf, h1, h2⟩, nrp, ⟨lr, h3, h4⟩, a1, a2, a3, a4, a5, a6, a7, a8, a9⟩ := F
  obtain ⟨s0', t0', el, _⟩ := id st
  exact ⟨st', sz, ⟨lf, sqT_off el o h1, L2.Paired.mapP h2 fun _ _ h => gridS st o h⟩, nrp, ⟨lr, o _ _ nrp h3, L2.Paired.mapP h4 fun _ _ h => rowS st o h⟩, a1, a2, a3, a4, a5, a6, a7, a8, a9⟩
theorem Fl.offL (nDp : D ≠ p) (nDr : D ≠ rw) (hD : H D = some (.lst acc)) (o : Off D H H') (F : Fl K C H p f rw n i t ρ R) : Fl K C H' p f rw n i t ρ R := by
  obtain ⟨st, sz, ⟨lf, h1, h2⟩, nrp, ⟨lr, h3, h4⟩, a1, a2, a3, a4, a5, a6, a7, a8, a9⟩ := F
  obtain ⟨s0', t0', el, h0⟩ := id st
  exact ⟨⟨s0', t0', o _ _ (Ne.symm nDp) el, h0⟩, sz, ⟨lf, sqT_off hD o h1, L2.Paired.mapP h2 fun _ _ h => grid_off hD o h⟩, nrp, ⟨lr, o _ _ (Ne.symm nDr) h3, L2.Paired.mapP h4 fun _ _ h => TRow.off hD o h⟩, a1, a2, a3, a4, a5, a6, a7, a8, a9⟩
theorem Fl.nep (F : Fl K C H p f rw n i t ρ R) (hD : H D = none) : D ≠ p := fun z => by
  obtain ⟨s0', t0', el, _⟩ := F.st
  subst z
  rw [hD] at el
  cases el
theorem Fl.ner (F : Fl K C H p f rw n i t ρ R) (hD : H D = none) : D ≠ rw := fun z => by
  obtain ⟨lr, h3, _⟩ := F.rows
  subst z
  rw [hD] at h3
  cases h3
/-- a row more -/
theorem Fl.push {v : V} {lr : List V} {h : Nat} {r : List Int} (F : Fl K C H p f rw n i t ρ R) (e : H rw = some (.lst lr)) (hv : TRow K H v r) (ht : t < n) (hd : ρ % h = 0) (h1 : 1 ≤ h) (hlast : t + 1 = n → h = ρ) (lr' : r.length = n) (rz : ∀ b, b < t → r.getD b 0 = 0) (rh : r.getD t 0 = (h : Int)) (rb : ∀ x ∈ r, x.natAbs ≤ 60) :
    Fl K C (upd H rw (.lst (lr ++ [v]))) p f rw n i (t + 1) (ρ / h) (R ++ [r]) := by
  obtain ⟨st, sz, ⟨lf, h1', h2⟩, nrp, ⟨lr2, h3, h4⟩, a1, a2, a3, a4, a5, a6, a7, a8, a9⟩ := F
  rw [e] at h3
  cases h3
  have o : Off rw H (upd H rw (.lst (lr ++ [v]))) := Off.upd
  obtain ⟨s0', t0', el, h0⟩ := id st
  have em := Nat.div_mul_cancel (Nat.dvd_of_mod_eq_zero hd)
  have q1 : 1 ≤ ρ / h := by
    rcases Nat.eq_zero_or_pos (ρ / h) with z | z
    · rw [z, Nat.zero_mul] at em; omega
    · exact z
  refine ⟨⟨s0', t0', o _ _ (Ne.symm nrp) el, h0⟩, sz, ⟨lf, sqT_off e o h1', L2.Paired.mapP h2 fun _ _ h => grid_off e o h⟩, nrp, ⟨_, upd_same, Gm.paired_snoc (L2.Paired.mapP h4 fun _ _ h => TRow.off e o h) (TRow.off e o hv)⟩, by rw [List.length_append, a1]; rfl, ht, q1, Nat.le_trans (Nat.div_le_self _ _) a4, fun z => ?_, fun q hq => ?_, fun a b hab => ?_, ?_, fun q hq x hx => ?_⟩
  · rw [hlast z]
    exact Nat.div_self a3
  · rcases List.mem_append.mp hq with hq | hq
    · exact a6 q hq
    · rw [List.mem_singleton.mp hq]; exact lr'
  · rcases Nat.lt_trichotomy a t with hat | hat | hat
    · have : ent (R ++ [r]) a b = ent R a b := by
        unfold ent
        rw [List.getD_eq_getElem?_getD (l := R ++ [r]), List.getElem?_append_left (by omega), ← List.getD_eq_getElem?_getD]
      rw [this]
      exact a7 a b hab
    · subst hat
      have : ent (R ++ [r]) a b = r.getD b 0 := by
        unfold ent
        rw [List.getD_eq_getElem?_getD (l := R ++ [r]), List.getElem?_append_right (by omega), a1, Nat.sub_self]
        rfl
      rw [this]
      exact rz b hab
    · unfold ent
      rw [List.getD_eq_getElem?_getD (l := R ++ [r]), List.getElem?_eq_none (by rw [List.length_append]; show R.length + 1 ≤ a; omega)]
      rfl
  · rw [diagP_snoc, Nat.zero_add, a1, rh, ← a8]
    have e2 : ((ρ / h : Nat) : Int) * (h : Int) = (ρ : Int) := by rw [← Int.natCast_mul, em]
    rw [← e2]
    grind
  · rcases List.mem_append.mp hq with hq | hq
    · exact a9 q hq x hx
    · rw [List.mem_singleton.mp hq] at hx; exact rb x hx
end

end
end K44
namespace K44
open PySem PySem.Spec PyProof.Rows L2 Gm
open C8 (Cal Met Mak pe_c pe_mt pe_mt0 pe_mk)
section
variable {P : Program} {w : World} {K : PySem.W.Frag} {mg : Str → Option Value} {base : Heap}
theorem paired_fn {α : Type} {g : α → V} : ∀ {is : List α} {l : List V}, Paired (fun i v => v = g i) is l → l = is.map g
  | _, _, .nil => rfl
  | _, _, .cons r t => by rw [List.map_cons, ← r, ← paired_fn t]
def M9 (K : PySem.W.Frag) (C : Addr) : L2.St → Hp → Prop := fun σ H => ∃ (s0 s5 s6 : Option V) (p f rw : Addr) (n i : Nat),
  σ = [s0, some (.ref p), some (.int (n : Int)), some (.int (i : Int)), some (.ref f), s5, s6, some (.int (i : Int)), some (.ref rw), none, none, none, none, none] ∧ Fl K C H p f rw n i 0 i []
theorem ch9 (T : Top K mg) (hN : base.NoSeer) (hT : P.given.tree = none) {cdv : Value} {A : Around} {outer : List Env} {s : Shared} {H0 : Hp} {E : XK} (hr : Room 48 (A.deeper (envOfC "law" (defScope s_law) s.heap.objs.size T.a_law cdv))) :
    PSs (XL P w base T cdv A outer s H0 E) ((defBody s_law).drop 9) (tK (M9 K T.C_Grid)) := by
  refine pss_wk ((pss_cons (ps_for PassesOwn.never rfl (pi_range1 (by rfl) T.z_range (pa_cons (pv 2) pa_nil)) (pg_name (i := 9) sc_law.nd rfl (by first | exact .inl rfl | exact .inr rfl))
      (pss_cons (ps_setLc (i := 10) (own := [("k", 13)]) (g := (gName 13)) (by rfl) sc_law.nd rfl rfl (sw_true rfl rfl rfl (by decide +kernel)) (pi_range2 (by rfl) T.z_range (pa_cons pe_int (pa_cons (pe_op op_add (pv 7) pe_int) pa_nil))) ((by show BlkOk ["script", "state", "n", "index", "found", "due", "grid", "rest", "rows", "i", "heads", "head", "mixed_v", "k"] (defScope s_law) _ _; exact blkOk_by (by decide +kernel))) (fun _ _ _ _ _ => (pg_name (i := 13) sc_law.nd rfl (by first | exact .inl rfl | exact .inr rfl))) (fun _ _ _ _ _ => (pts_one (pt_cmpR op_eq (pe_op op_mod (pv 7) (pv 13)) pe_int (nomark _)))) (fun _ _ _ _ _ => (pv 13)))
      (pss_cons (ps_set (i := 11) sc_law.nd rfl (by first | exact .inl rfl | exact .inr rfl) (pe_ifExp (pt_cmpR op_lt (pv 9) (pe_op op_sub (pv 2) pe_int) (nomark _)) (pe_ix (ixL K rfl) (pv 10) (pe_c (cal_law_take T hN hT) hr (by decide) (by rfl) (pa_cons (pv 1) (pa_cons (pe_callB (lenS K rfl) (by rfl) T.z_len (by decide +kernel) (pa_cons (pv 10) pa_nil)) pa_nil))) (fun _ _ => rfl)) (pv 7)))
      (pss_cons (ps_set (i := 7) sc_law.nd rfl (by first | exact .inl rfl | exact .inr rfl) (pe_op (op_fdivQ hN rfl rfl rfl rfl rfl hT (room100 hr (by decide))) (pv 7) (pv 11)))
      (pss_one (ps_expr (pe_bm PySem.F.plainAttrs_list PySem.F.slot_list_append PySem.F.type_list_append mt_append (pv 8) (pa_cons (pe_op (catK K rfl) (pe_op (catK K rfl) (pe_callTy (tupK K rfl) (by rfl) T.z_tuple (by decide +kernel) (pa_cons (pe_lc (own := [("k", 13)]) (g := (gName 13)) (by rfl) sc_law.nd (pi_range1 (by rfl) T.z_range (pa_cons (pv 9) pa_nil)) ((by show BlkOk ["script", "state", "n", "index", "found", "due", "grid", "rest", "rows", "i", "heads", "head", "mixed_v", "k"] (defScope s_law) _ _; exact blkOk_by (by decide +kernel))) (fun _ _ _ _ _ => (pg_name (i := 13) sc_law.nd rfl (by first | exact .inl rfl | exact .inr rfl))) (fun _ _ _ _ _ => pts_nil) (fun _ _ _ _ _ => pe_int)) pa_nil)) (pe_tup (pa_cons (pv 11) pa_nil))) (pe_callTy (tupK K rfl) (by rfl) T.z_tuple (by decide +kernel) (pa_cons (pe_lc (own := [("k", 13)]) (g := (gName 13)) (by rfl) sc_law.nd (pi_range2 (by rfl) T.z_range (pa_cons (pe_op op_add (pv 9) pe_int) (pa_cons (pv 2) pa_nil))) ((by show BlkOk ["script", "state", "n", "index", "found", "due", "grid", "rest", "rows", "i", "heads", "head", "mixed_v", "k"] (defScope s_law) _ _; exact blkOk_by (by decide +kernel))) (fun _ _ _ _ _ => (pg_name (i := 13) sc_law.nd rfl (by first | exact .inl rfl | exact .inr rfl))) (fun _ _ _ _ _ => pts_nil) (fun _ _ _ _ _ => (pe_op op_sub (pe_c (cal_law_take T hN hT) hr (by decide) (by rfl) (pa_cons (pv 1) (pa_cons pe_int pa_nil))) pe_int))) pa_nil))) pa_nil))))))))
      (ch10 T hN hT hr))) ?_
  rintro D σ H ⟨⟨s0, s5, s6, p, f, rw, n, i, rfl, F0⟩, q⟩
  obtain ⟨n1, n4, i1, i60⟩ := F0.sz.n1
  refine ⟨_, rfl, (n : Int), rfl, by omega, by omega, ?_⟩
  rw [show ((n : Int)).toNat = n from Int.toNat_natCast _]
  refine for_it walk_range (fun t σ H3 => ∃ (y9 y10 y11 : Option V) (ρ : Nat) (R : List (List Int)), σ = [s0, some (.ref p), some (.int (n : Int)), some (.int (i : Int)), some (.ref f), s5, s6, some (.int (ρ : Int)), some (.ref rw), y9, y10, y11, none, none] ∧ Fl K T.C_Grid H3 p f rw n i t ρ R) ⟨_, _, _, i, [], rfl, F0⟩ (fun _ _ _ _ _ => trivial) ?_ ?_
  · rintro t x σ H3 H3' ht ⟨y9, y10, y11, ρ, R, rfl, F⟩ ⟨rfl, rfl⟩
    have r1 := F.r1
    have r60 := F.r60
    refine ⟨_, rfl, _, _, rfl, rfl, 1, (ρ : Int) + 1, rfl, ⟨by omega, by omega, by omega, by omega⟩, ?_⟩
    rw [show ((ρ : Int) + 1 - 1).toNat = ρ by omega]
    intro D1 hD1
    refine lc_gen (walk_range (lo := 1) (n := ρ)) hD1 (by omega) (fun _ _ => trivial) (fun k => decide (ρ % (k + 1) = 0)) (fun k v _ => v = .int ((k + 1 : Nat) : Int)) (fun _ _ _ _ _ _ _ h => h) ?_ ?_
    · rintro k x H4 H4' acc Ko Kn hk s4 eD4 ⟨rfl, rfl⟩ k1 k2
      refine ⟨rfl, ?_⟩
      have hk1 : (1 : Int) + (k : Int) = ((k + 1 : Nat) : Int) := by omega
      refine ⟨_, rfl, _, rfl, (ρ : Int), _, rfl, rfl, by show (0 : Int) < 1 + (k : Int); omega, rfl, _, rfl, ?_⟩
      by_cases hd : ρ % (k + 1) = 0
      · rw [decide_eq_true (show V.int ((ρ : Int) % (1 + (k : Int))) = V.int 0 by rw [hk1, ← Int.natCast_emod, hd]; rfl)]
        refine iteT ⟨_, rfl, k1 (decide_eq_true hd) _ _ (fun _ _ h => h) ?_⟩
        show V.int (1 + (k : Int)) = _
        rw [hk1]
      · rw [decide_eq_false (show ¬ V.int ((ρ : Int) % (1 + (k : Int))) = V.int 0 from fun z => hd (by have := V.int.inj z; rw [hk1, ← Int.natCast_emod] at this; omega))]
        exact iteF (k2 (decide_eq_false hd) _ fun _ _ h => h)
    intro H4 l s4 eD4 hpl
    have el := paired_fn hpl
    subst el
    have F4 := F.same s4
    have nD1p := F.nep hD1
    have hfil : ∀ k ∈ (List.range ρ).filter (fun k => decide (ρ % (k + 1) = 0)), k < ρ ∧ ρ % (k + 1) = 0 := fun k hk => by
      obtain ⟨h1, h2⟩ := List.mem_filter.mp hk
      exact ⟨List.mem_range.mp h1, of_decide_eq_true h2⟩
    have hfl : 0 < ((List.range ρ).filter (fun k => decide (ρ % (k + 1) = 0))).length := by
      refine List.length_pos_of_mem (a := 0) (List.mem_filter.mpr ⟨List.mem_range.mpr r1, decide_eq_true ?_⟩)
      rw [Nat.zero_add, Nat.mod_one]
    have hfl2 : ((List.range ρ).filter (fun k => decide (ρ % (k + 1) = 0))).length ≤ ρ := by
      refine Nat.le_trans (List.length_filter_le _ _) ?_
      rw [List.length_range]
      exact Nat.le_refl _
    refine ⟨_, rfl, _, rfl, _, _, rfl, rfl, _, _, rfl, rfl, _, rfl, ?_⟩
    by_cases htn : t + 1 < n
    · rw [decide_eq_true (show (0 : Int) + (t : Int) < (n : Int) - 1 by omega)]
      refine iteT ?_
      refine ⟨_, rfl, _, rfl, _, rfl, D1, _, rfl, .inl (.inl (.inl eD4)), p, ((List.range ρ).filter (fun k => decide (ρ % (k + 1) = 0))).length, by rw [List.length_map]; rfl, F4.st, hfl, by omega, fun r H5 hr5 o5 st5 => ?_⟩
      have ek := List.getElem?_eq_getElem hr5
      obtain ⟨k0, hk0⟩ : ∃ k0, ((List.range ρ).filter (fun k => decide (ρ % (k + 1) = 0)))[r]? = some k0 := ⟨_, ek⟩
      obtain ⟨hk1, hk2⟩ := hfil k0 (List.mem_of_getElem? hk0)
      refine ⟨D1, _, _, V.int ((k0 + 1 : Nat) : Int), rfl, rfl, .inl (.inl (o5 _ _ nD1p eD4)), atI_nat (j := r) (by rw [List.getElem?_map, hk0]; rfl), ?_⟩
      obtain ⟨h, eh⟩ : ∃ h, h = k0 + 1 := ⟨_, rfl⟩
      rw [← eh]
      rw [← eh] at hk2
      have Fc := F4.off o5 st5
      have hh1 : 1 ≤ h := by omega
      have hh60 : h ≤ 60 := by omega
      have hlast : t + 1 = n → h = ρ := fun z => by omega
      obtain ⟨lr, hlr, hplr⟩ := Fc.rows
      have hlen := Fc.len
      have htn' : t < n := ht
      refine ⟨_, rfl, _, rfl, (ρ : Int), (h : Int), rfl, rfl, by show (h : Int) ≠ 0; omega, ?_⟩
      have ef : ((ρ : Int)).fdiv (h : Int) = ((ρ / h : Nat) : Int) := by rw [Int.fdiv_eq_ediv_of_nonneg _ (by omega)]; rfl
      refine ⟨_, rfl, .inl ⟨rfl, _, .inl (.inl hlr)⟩, ?_⟩
      refine ⟨_, rfl, (0 : Int) + (t : Int), rfl, by omega, by omega, ?_⟩
      rw [show ((0 : Int) + (t : Int)).toNat = t by omega]
      intro D2 hD2
      refine lc_all (walk_range (lo := 0) (n := t)) hD2 (by omega) (fun _ _ => trivial) (fun ix v H6 => ∃ z, (List.replicate t (0 : Int))[ix]? = some z ∧ v = .int z) (fun _ _ _ _ _ _ _ h => h) ?_ gm_name ?_
      · rintro ix x H6 H6' acc Ko hix sg6 eD6 ⟨rfl, rfl⟩ k
        exact ⟨rfl, k _ _ (fun _ _ h => h) ⟨0, by rw [List.getElem?_replicate, if_pos hix], rfl⟩⟩
      intro H6 l6 sg6 eD6 hp6
      have el6 := ints_list (by rw [List.length_replicate]) hp6
      subst el6
      refine ⟨D2, _, rfl, .inl ⟨.inl (.inl eD6), fun tz ntz => ?_⟩⟩
      have sz := same_upd (o := .tup ((List.replicate t (0 : Int)).map V.int)) ntz
      refine ⟨_, rfl, by show 1 ≤ sizeLine; decide, fun tq ntq => ?_⟩
      refine catA (Same.seqT (same_upd ntq) (.inl (.inl upd_same))) (.inl (.inl upd_same)) (by rw [List.length_map, List.length_replicate]; show t + 1 ≤ 1000; omega) fun pr H7 s7 h7 => ?_
      have s57 := sg6.trans (sz.trans ((same_upd ntq).trans s7))
      have F7 := Fc.same s57
      have h7' : SqT K H7 pr ((headR t h).map V.int) := by
        unfold headR
        rw [List.map_append]
        exact h7
      refine ⟨_, rfl, _, _, rfl, rfl, _, rfl, (0 : Int) + (t : Int) + 1, (n : Int), rfl, ⟨by omega, by omega, by omega, by omega⟩, ?_⟩
      rw [show ((n : Int) - ((0 : Int) + (t : Int) + 1)).toNat = n - (t + 1) by omega]
      intro D3 hD3
      have nD3p := F7.nep hD3
      have nD3r := F7.ner hD3
      refine lc_val (walk_range (lo := (0 : Int) + (t : Int) + 1) (n := n - (t + 1))) (by omega) (fun Hx => Fl K T.C_Grid Hx p f rw n i t ρ R ∧ SqT K Hx pr ((headR t h).map V.int)) ⟨F7.same (same_upd hD3), Same.seqT (same_upd hD3) h7'⟩ (fun _ _ => trivial) (fun Hx acc acc' ⟨Fx, hs⟩ e => ⟨Fx.offL nD3p nD3r e Off.upd, sqT_off e Off.upd hs⟩) (fun _ v => ∃ z : Int, v = .int z ∧ z.natAbs ≤ 4) ?_ gm_name ?_
      · rintro k x H8 H8' acc Ko hk ⟨F8, hs8⟩ eD8 ⟨rfl, rfl⟩ kk
        refine ⟨rfl, ?_⟩
        refine ⟨_, rfl, p, 9, rfl, F8.st, by decide, by decide, fun r H9 hr9 o9 st9 => ⟨_, _, rfl, rfl, ?_⟩⟩
        obtain ⟨s0', t0', el', _⟩ := F8.st
        exact kk _ H9 ⟨F8.off o9 st9, sqT_off el' o9 hs8⟩ (o9 _ _ nD3p eD8) ⟨_, rfl, by omega⟩
      rintro H8 l8 ⟨F8, hs8⟩ eD8 hp8
      obtain ⟨zs, rfl, lz, bz⟩ := vals_small hp8
      rw [List.length_range] at lz
      refine ⟨D3, _, rfl, .inl ⟨.inl (.inl eD8), fun tw ntw => ?_⟩⟩
      refine catA (Same.seqT (same_upd ntw) hs8) (.inl (.inl upd_same)) (by rw [List.length_map, List.length_map, headR_len]; omega) fun pc H9 s9 h9 => ?_
      have F9 := F8.same ((same_upd (o := .tup (zs.map V.int)) ntw).trans s9)
      obtain ⟨lr9, hlr9, hplr9⟩ := F9.rows
      have hl9 := Paired.length hplr9
      refine ⟨rw, lr9, _, rfl, rfl, hlr9, small1000 (by have := F9.len; omega), ?_⟩
      refine ⟨some (.int (0 + (t : Int))), some (.ref D1), some (.int (h : Int)), ρ / h, R ++ [headR t h ++ zs], ?_, F9.push hlr9 ⟨pc, rfl, by rw [List.map_append]; exact h9⟩ htn' hk2 hh1 hlast (by rw [List.length_append, headR_len]; omega) (fun b hb => ?_) ?_ (fun x hx => ?_)⟩
      · show [s0, some (V.ref p), some (V.int (n : Int)), some (V.int (i : Int)), some (V.ref f), s5, s6, some (V.int (((ρ : Int)).fdiv (h : Int))), some (V.ref rw), some (V.int (0 + (t : Int))), some (V.ref D1), some (V.int (h : Int)), none, none] = _
        rw [ef]
      · rw [List.getD_eq_getElem?_getD, List.getElem?_append_left (by rw [headR_len]; omega), ← List.getD_eq_getElem?_getD, headR_lt hb]
      · rw [List.getD_eq_getElem?_getD, List.getElem?_append_left (by rw [headR_len]; omega), ← List.getD_eq_getElem?_getD, headR_at]
      · rcases List.mem_append.mp hx with hx | hx
        · unfold headR at hx
          rcases List.mem_append.mp hx with hx | hx
          · rw [List.eq_of_mem_replicate hx]
            decide
          · rw [List.mem_singleton.mp hx]
            omega
        · have := bz x hx
          omega
    · rw [decide_eq_false (show ¬ (0 : Int) + (t : Int) < (n : Int) - 1 by omega)]
      refine iteF ?_
      have hk2 : ρ % ρ = 0 := Nat.mod_self ρ
      have Fc := F4
      have hh1 : 1 ≤ ρ := r1
      have hh60 : ρ ≤ 60 := r60
      have hlast : t + 1 = n → ρ = ρ := fun _ => rfl
      obtain ⟨lr, hlr, hplr⟩ := Fc.rows
      have hlen := Fc.len
      have htn' : t < n := ht
      refine ⟨_, rfl, _, rfl, _, rfl, (ρ : Int), (ρ : Int), rfl, rfl, by show (ρ : Int) ≠ 0; omega, ?_⟩
      have ef : ((ρ : Int)).fdiv (ρ : Int) = ((ρ / ρ : Nat) : Int) := by rw [Int.fdiv_eq_ediv_of_nonneg _ (by omega)]; rfl
      refine ⟨_, rfl, .inl ⟨rfl, _, .inl (.inl hlr)⟩, ?_⟩
      refine ⟨_, rfl, (0 : Int) + (t : Int), rfl, by omega, by omega, ?_⟩
      rw [show ((0 : Int) + (t : Int)).toNat = t by omega]
      intro D2 hD2
      refine lc_all (walk_range (lo := 0) (n := t)) hD2 (by omega) (fun _ _ => trivial) (fun ix v H6 => ∃ z, (List.replicate t (0 : Int))[ix]? = some z ∧ v = .int z) (fun _ _ _ _ _ _ _ h => h) ?_ gm_name ?_
      · rintro ix x H6 H6' acc Ko hix sg6 eD6 ⟨rfl, rfl⟩ k
        exact ⟨rfl, k _ _ (fun _ _ h => h) ⟨0, by rw [List.getElem?_replicate, if_pos hix], rfl⟩⟩
      intro H6 l6 sg6 eD6 hp6
      have el6 := ints_list (by rw [List.length_replicate]) hp6
      subst el6
      refine ⟨D2, _, rfl, .inl ⟨.inl (.inl eD6), fun tz ntz => ?_⟩⟩
      have sz := same_upd (o := .tup ((List.replicate t (0 : Int)).map V.int)) ntz
      refine ⟨_, rfl, by show 1 ≤ sizeLine; decide, fun tq ntq => ?_⟩
      refine catA (Same.seqT (same_upd ntq) (.inl (.inl upd_same))) (.inl (.inl upd_same)) (by rw [List.length_map, List.length_replicate]; show t + 1 ≤ 1000; omega) fun pr H7 s7 h7 => ?_
      have s57 := sg6.trans (sz.trans ((same_upd ntq).trans s7))
      have F7 := Fc.same s57
      have h7' : SqT K H7 pr ((headR t ρ).map V.int) := by
        unfold headR
        rw [List.map_append]
        exact h7
      refine ⟨_, rfl, _, _, rfl, rfl, _, rfl, (0 : Int) + (t : Int) + 1, (n : Int), rfl, ⟨by omega, by omega, by omega, by omega⟩, ?_⟩
      rw [show ((n : Int) - ((0 : Int) + (t : Int) + 1)).toNat = n - (t + 1) by omega]
      intro D3 hD3
      have nD3p := F7.nep hD3
      have nD3r := F7.ner hD3
      refine lc_val (walk_range (lo := (0 : Int) + (t : Int) + 1) (n := n - (t + 1))) (by omega) (fun Hx => Fl K T.C_Grid Hx p f rw n i t ρ R ∧ SqT K Hx pr ((headR t ρ).map V.int)) ⟨F7.same (same_upd hD3), Same.seqT (same_upd hD3) h7'⟩ (fun _ _ => trivial) (fun Hx acc acc' ⟨Fx, hs⟩ e => ⟨Fx.offL nD3p nD3r e Off.upd, sqT_off e Off.upd hs⟩) (fun _ v => ∃ z : Int, v = .int z ∧ z.natAbs ≤ 4) ?_ gm_name ?_
      · rintro k x H8 H8' acc Ko hk ⟨F8, hs8⟩ eD8 ⟨rfl, rfl⟩ kk
        refine ⟨rfl, ?_⟩
        refine ⟨_, rfl, p, 9, rfl, F8.st, by decide, by decide, fun r H9 hr9 o9 st9 => ⟨_, _, rfl, rfl, ?_⟩⟩
        obtain ⟨s0', t0', el', _⟩ := F8.st
        exact kk _ H9 ⟨F8.off o9 st9, sqT_off el' o9 hs8⟩ (o9 _ _ nD3p eD8) ⟨_, rfl, by omega⟩
      rintro H8 l8 ⟨F8, hs8⟩ eD8 hp8
      obtain ⟨zs, rfl, lz, bz⟩ := vals_small hp8
      rw [List.length_range] at lz
      refine ⟨D3, _, rfl, .inl ⟨.inl (.inl eD8), fun tw ntw => ?_⟩⟩
      refine catA (Same.seqT (same_upd ntw) hs8) (.inl (.inl upd_same)) (by rw [List.length_map, List.length_map, headR_len]; omega) fun pc H9 s9 h9 => ?_
      have F9 := F8.same ((same_upd (o := .tup (zs.map V.int)) ntw).trans s9)
      obtain ⟨lr9, hlr9, hplr9⟩ := F9.rows
      have hl9 := Paired.length hplr9
      refine ⟨rw, lr9, _, rfl, rfl, hlr9, small1000 (by have := F9.len; omega), ?_⟩
      refine ⟨some (.int (0 + (t : Int))), some (.ref D1), some (.int (ρ : Int)), ρ / ρ, R ++ [headR t ρ ++ zs], ?_, F9.push hlr9 ⟨pc, rfl, by rw [List.map_append]; exact h9⟩ htn' hk2 hh1 hlast (by rw [List.length_append, headR_len]; omega) (fun b hb => ?_) ?_ (fun x hx => ?_)⟩
      · show [s0, some (V.ref p), some (V.int (n : Int)), some (V.int (i : Int)), some (V.ref f), s5, s6, some (V.int (((ρ : Int)).fdiv (ρ : Int))), some (V.ref rw), some (V.int (0 + (t : Int))), some (V.ref D1), some (V.int (ρ : Int)), none, none] = _
        rw [ef]
      · rw [List.getD_eq_getElem?_getD, List.getElem?_append_left (by rw [headR_len]; omega), ← List.getD_eq_getElem?_getD, headR_lt hb]
      · rw [List.getD_eq_getElem?_getD, List.getElem?_append_left (by rw [headR_len]; omega), ← List.getD_eq_getElem?_getD, headR_at]
      · rcases List.mem_append.mp hx with hx | hx
        · unfold headR at hx
          rcases List.mem_append.mp hx with hx | hx
          · rw [List.eq_of_mem_replicate hx]
            decide
          · rw [List.mem_singleton.mp hx]
            omega
        · have := bz x hx
          omega
  · rintro σ H3 ⟨y9, y10, y11, ρ, R, rfl, F⟩
    have hone := F.rn rfl
    have dg := F.dg
    rw [hone] at dg
    refine ⟨⟨s0, s5, s6, _, _, _, _, p, f, rw, n, i, R, rfl, F.st, F.sz, F.fd, F.nrp, F.rows, ⟨F.len, F.row⟩, F.up, by rw [← dg]; omega, F.bd⟩, q⟩

end
end K44
namespace K44
open PySem PySem.Spec PyProof.Rows L2 Gm
open C8 (Cal Met Mak pe_c pe_mt pe_mt0 pe_mk)
section
variable {P : Program} {w : World} {K : PySem.W.Frag} {mg : Str → Option Value} {base : Heap}
/-! ### lists of tables as data -/
theorem kit_self {K : PySem.W.Frag} {C : Addr} : PySem.W.kitOne K (.ref C) (.ref C) = some true := by
  unfold PySem.W.kitOne
  rw [if_pos (beq_self_eq_true _)]
def pdL (Ts : List (List (List Int))) : PyData := .list (Ts.map pdM)
theorem dp_mats {K : PySem.W.Frag} {H : Hp} : ∀ {vs : List V} {Ts : List (List (List Int))}, Paired (TRows K H) vs Ts → DpAll K H vs (Ts.map pdM)
  | _, _, .nil => .nil
  | _, _, .cons r t => .cons (dp_rows r) (dp_mats t)
theorem lay_mats : ∀ Ts : List (List (List Int)), PyData.canLayAll0 (Ts.map pdM) = true
  | [] => by simp [PyData.canLayAll0]
  | m :: Ts => by
    have h1 := lay_pdM m
    have h2 := lay_mats Ts
    show PyData.canLayAll0 (pdM m :: Ts.map pdM) = true
    rw [PyData.canLayAll0, h1, h2]
    rfl
theorem lay_pdL (Ts : List (List (List Int))) : (pdL Ts).canLay0 = true := by
  have h := lay_mats Ts
  simp [pdL, PyData.canLay0, h]
theorem dep_mats : ∀ Ts : List (List (List Int)), PyData.depthAll (Ts.map pdM) ≤ 2
  | [] => by simp [PyData.depthAll]
  | m :: Ts => by
    have h1 := dep_rows m
    have h2 := dep_mats Ts
    show PyData.depthAll (pdM m :: Ts.map pdM) ≤ 2
    rw [PyData.depthAll, pdM, PyData.depth]
    omega
theorem shaped_pdL (Ts : List (List (List Int))) : SeqAt.shaped (pdL Ts) = true := by
  unfold SeqAt.shaped
  rw [Bool.and_eq_true, lay_pdL]
  refine ⟨rfl, decide_eq_true ?_⟩
  have := dep_mats Ts
  rw [pdL, PyData.depth]
  omega
theorem ne_mats {K : PySem.W.Frag} {H : Hp} {a b : Addr} {vs ws : List V} {Ts : List (List (List Int))} {Q : VK} (h1 : SqL K H a vs) (h2 : SqL K H b ws) (p1 : Paired (TRows K H) vs Ts) (p2 : Paired (TRows K H) ws Ts) (q : Q (.bl false) H) : rNeD K (.ref a) (.ref b) H Q := by
  refine ⟨pdL Ts, pdL Ts, .lst h1 (dp_mats p1), .lst h2 (dp_mats p2), shaped_pdL _, shaped_pdL _, ?_⟩
  rw [PySem.SeqAt.eqv_refl _ (lay_pdL Ts)]
  exact q
def M5 (K : PySem.W.Frag) (C : Addr) : L2.St → Hp → Prop := fun σ H => ∃ (s0 : Option V) (p f du : Addr) (n i : Nat) (lf ld : List V),
  σ = [s0, some (.ref p), some (.int (n : Int)), some (.int (i : Int)), some (.ref f), some (.ref du), none, none, none, none, none, none, none, none] ∧ StAt H p ∧ SizeOk n i ∧ SqT K H f lf ∧ Paired (fun v m => IsGrid K C H v m n) lf (sortM (foundN n i)) ∧ H du = some (.lst ld) ∧ Paired (TRows K H) ld (sortM (lawT n i 0))
theorem ch5 (T : Top K mg) (hN : base.NoSeer) (hT : P.given.tree = none) {cdv : Value} {A : Around} {outer : List Env} {s : Shared} {H0 : Hp} {E : XK} (hr : Room 48 (A.deeper (envOfC "law" (defScope s_law) s.heap.objs.size T.a_law cdv))) :
    PSs (XL P w base T cdv A outer s H0 E) ((defBody s_law).drop 5) (tK (M5 K T.C_Grid)) := by
  refine pss_wk ((pss_cons (ps_if (PW.pt (pw_or (pt_not (pt_val (pe_callB (isiK K rfl) (by rfl) T.z_isinstance (by decide +kernel) (pa_cons (pv 4) (pa_cons (pe_bltn (v := .ty "tuple") (by rfl) T.z_tuple (by decide +kernel) rfl) pa_nil))))) (pw_or1 (pt_cmpR (neDK K rfl hr) (pe_lc (own := [("grid", 6)]) (g := (gName 6)) (by rfl) sc_law.nd (piS K rfl (pv 4)) ((by show BlkOk ["script", "state", "n", "index", "found", "due", "grid", "rest", "rows", "i", "heads", "head", "mixed_v", "k"] (defScope s_law) _ _; exact blkOk_by (by decide +kernel))) (fun _ _ _ _ _ => (pg_name (i := 6) sc_law.nd rfl (by first | exact .inl rfl | exact .inr rfl))) (fun _ _ _ _ _ => pts_nil) (fun _ _ _ _ _ => (fldK K rfl (pv 6) rfl))) (pv 5) (nomark _)))))
      (pss_one (ps_ret pe_bl))
      pss_nil)
      (pss_cons (ps_for PassesOwn.never rfl (piS K rfl (pv 4)) (pg_name (i := 6) sc_law.nd rfl (by first | exact .inl rfl | exact .inr rfl))
      (pss_one (ps_if (PW.pt (pw_or (pt_not (pt_val (pe_callB (isiK K rfl) (by rfl) T.z_isinstance (by decide +kernel) (pa_cons (pv 6) (pa_cons (pe_glob (by rfl) T.g_Grid (show RelV (.ref T.C_Grid) _ from rfl)) pa_nil))))) (pw_or1 (pt_cmpR op_ne (fldK K rfl (pv 6) rfl) (pv 2) (nomark _)))))
      (pss_one (ps_ret pe_bl))
      pss_nil)))
      (pss_cons (ps_set (i := 7) sc_law.nd rfl (by first | exact .inl rfl | exact .inr rfl) (pv 3))
      (pss_cons (ps_set (i := 8) sc_law.nd rfl (by first | exact .inl rfl | exact .inr rfl) (pe_lst pa_nil))
      (ch9 T hN hT hr)))))) ?_
  rintro D σ H ⟨⟨s0, p, f, du, n, i, lf, ld, rfl, st, sz, hf, hpf, hdu, hpd⟩, q⟩
  obtain ⟨n1, n4, i1, i60⟩ := sz.n1
  have hll := Paired.length hpf
  have hlen : (sortM (foundN n i)).length ≤ 900 := by rw [(sortM_perm _).length_eq]; exact (okS_of sz).len
  rw [← sortM_uniq (perm_all sz)] at hpd
  refine ⟨_, rfl, .ref f, .ty "tuple", _, _, true, rfl, .ty _, row_ty hf, kit_ty (by decide +kernel), true, rfl, ?_⟩
  refine iteF ?_
  refine ⟨_, rfl, f, lf, rfl, .inr hf, fun J G W1 hG D1 hD1 => ?_⟩
  refine lc_all W1 hD1 (by omega) (fun Ha sa => hG Ha fun b _ o => sa b o) (fun l v Ha => ∃ m, (sortM (foundN n i))[l]? = some m ∧ TRows K Ha v m) (fun l v H7 H8 acc e o ⟨r, er, h⟩ => ⟨r, er, TRows.off e o h⟩) ?_ gm_name ?_
  · rintro l x Ha Ha' acc Ko hl sa eDa ⟨rfl, ex⟩ kk
    obtain ⟨m, em, gm⟩ := Paired.getR (L2.Paired.mapP hpf fun _ _ h => IsGrid.same sa h) ex
    obtain ⟨⟨gx, gd, gt, rfl, hog, htg⟩, _⟩ := id gm
    refine ⟨rfl, ?_⟩
    refine ⟨_, rfl, gx, T.C_Grid, gd, _, _, rfl, hog, T.cl_Grid, T.n_rows, flds_rows _ _, ?_⟩
    exact kk _ _ (fun _ _ h => h) ⟨m, em, htg⟩
  intro H2 l2 s2 eD2 hp2
  have hp3 := paired_at (F := TRows K H2) hll hp2
  refine ⟨_, rfl, ne_mats (.inl (.inl eD2)) (.inl (.inl (s2 _ _ hdu))) hp3 (L2.Paired.mapP hpd fun _ _ h => TRows.same s2 h) ⟨_, rfl, ?_⟩⟩
  refine iteF ?_
  refine ⟨_, rfl, f, lf, rfl, .inr (Same.seqT s2 hf), fun J2 G2 W2 hG2 => ?_⟩
  refine for_it W2 (fun j σ H3 => ∃ (y6 : Option V), σ = [s0, some (.ref p), some (.int (n : Int)), some (.int (i : Int)), some (.ref f), some (.ref du), y6, none, none, none, none, none, none, none] ∧ Same H2 H3) ⟨none, rfl, fun _ _ h => h⟩ (fun j σ H3 _ ⟨_, _, s3⟩ => hG2 _ fun b _ o e => s3 b o e) ?_ ?_
  · rintro j x σ H3 H3' hj ⟨y6, rfl, s3⟩ ⟨rfl, ex⟩
    obtain ⟨m, em, gm⟩ := Paired.getR (L2.Paired.mapP hpf fun _ _ h => IsGrid.same (s2.trans s3) h) ex
    obtain ⟨⟨gx, gd, gt, rfl, hog, htg⟩, _⟩ := id gm
    have tyG : TyX K H3' (.ref gx) (.ref T.C_Grid) := .base (.ins hog T.cl_Grid T.kc_Grid T.kg_Grid T.kt_Grid T.km_Grid)
    refine ⟨_, rfl, .ref gx, .ref T.C_Grid, _, _, true, rfl, .own _, tyG, kit_self, true, rfl, ?_⟩
    refine iteF ?_
    refine ⟨_, rfl, gx, T.C_Grid, gd, _, _, rfl, hog, T.cl_Grid, T.n_width, flds_width _ _, ?_⟩
    refine ⟨_, rfl, rfl, _, rfl, ?_⟩
    rw [decide_eq_true (rfl : V.int (n : Int) = V.int (n : Int))]
    exact iteF ⟨_, rfl, s3⟩
  · rintro σ H3 ⟨y6, rfl, s3⟩
    have s23 := s2.trans s3
    refine ⟨_, rfl, ?_⟩
    refine ⟨by show 0 ≤ sizeLine; decide, fun rw nrw => ?_⟩
    have s4 := same_upd (o := .lst []) nrw
    have st4 := (st.same s23).same s4
    have nrp : rw ≠ p := fun z => by
      obtain ⟨s0', t0', el, _⟩ := st.same s23
      subst z
      rw [nrw] at el
      cases el
    refine ⟨⟨s0, _, _, p, f, rw, n, i, rfl, st4, sz, ⟨lf, Same.seqT (s23.trans s4) hf, L2.Paired.mapP hpf fun _ _ h => IsGrid.same (s23.trans s4) h⟩, nrp, ⟨[], upd_same, .nil⟩, rfl, Nat.zero_le _, i1, i60, fun z => by omega, fun r hr => (by cases hr), fun a b hab => ?_, ?_, fun r hr => (by cases hr)⟩, q⟩
    · unfold ent
      simp
    · show (1 : Int) * (i : Int) = (i : Int)
      omega

end
end K44
namespace K44
open PySem PySem.Spec PyProof.Rows L2 Gm
open C8 (Cal Met Mak pe_c pe_mt pe_mt0 pe_mk)
section
variable {P : Program} {w : World} {K : PySem.W.Frag} {mg : Str → Option Value} {base : Heap}
theorem fn_or {P : Program} {w : World} {K : PySem.W.Frag} {mg : Str → Option Value} {base : Heap} {CX : CXT} {k : Nat} {f : Addr} {fd : FuncData} {ps : List Str} {sp1 sp2 : Sp} (F1 : FnOk P w K mg base CX k f fd ps sp1) (F2 : FnOk P w K mg base CX k f fd ps sp2) : FnOk P w K mg base CX k f fd ps (fun vs H Q E => sp1 vs H Q E ∨ sp2 vs H Q E) :=
  ⟨fun vs H Q E h => h.elim (F1.len vs H Q E) (F2.len vs H Q E), fun A o s H args us vs Q E hr e b v h => h.elim (fun h => F1.run A o s H args us vs Q E hr e b v h) fun h => F2.run A o s H args us vs Q E hr e b v h⟩
def sp_tabs (K : PySem.W.Frag) : Sp := fun vs H Q E => (sp_law_tables K 1 vs H Q E ∨ sp_law_tables K 2 vs H Q E) ∨ (sp_law_tables K 3 vs H Q E ∨ sp_law_tables K 4 vs H Q E)
theorem tabs_of {K : PySem.W.Frag} {n : Nat} {vs : List V} {H : Hp} {Q : VK} {E : XK} (h1 : 1 ≤ n) (h4 : n ≤ 4) (h : sp_law_tables K n vs H Q E) : sp_tabs K vs H Q E := by
  rcases (show n = 1 ∨ n = 2 ∨ n = 3 ∨ n = 4 by omega) with rfl | rfl | rfl | rfl
  · exact .inl (.inl h)
  · exact .inl (.inr h)
  · exact .inr (.inl h)
  · exact .inr (.inr h)
theorem ok_tabs (T : Top K mg) (hN : base.NoSeer) (hT : P.given.tree = none) : FnOk P w K mg base CX0 48 T.a_law_tables T.d_law_tables ["n", "index", "at"] (sp_tabs K) :=
  fn_or (fn_or ((ok_law_tables T hN hT 1 (by decide)).mono (by decide)) ((ok_law_tables T hN hT 2 (by decide)).mono (by decide))) (fn_or ((ok_law_tables T hN hT 3 (by decide)).mono (by decide)) ((ok_law_tables T hN hT 4 (by decide)).mono (by decide)))
theorem cal_law_tables (T : Top K mg) (hN : base.NoSeer) (hT : P.given.tree = none) : Cal P w K mg base 48 "_law_tables" (sp_tabs K) [] := ⟨⟨_, _, _, [], ok_tabs T hN hT, T.g_law_tables, T.F_law_tables.kp, T.b_law_tables, .nil⟩⟩
theorem ok_law (T : Top K mg) (hN : base.NoSeer) (hT : P.given.tree = none) : FnOk P w K mg base CX0 49 T.a_law T.d_law ["script"] (sp_law K) := by
  refine T.F_law.ok sc_law (fun vs H Q E h => ?_) (fun cdv A outer s H vs Q E hr h => ?_)
  · obtain ⟨a, ns, rfl, _⟩ := h
    rfl
  · obtain ⟨a0, ns, rfl, hsc, hl, hb, q⟩ := h
    refine ⟨_, ((pss_cons (ps_set (i := 1) sc_law.nd rfl (by first | exact .inl rfl | exact .inr rfl) (pe_c (cal_law_state T hN hT) hr (by decide) (by rfl) (pa_cons (pv 0) pa_nil)))
      (pss_cons (ps_set (i := 2) sc_law.nd rfl (by first | exact .inl rfl | exact .inr rfl) (pe_op op_add pe_int (pe_c (cal_law_take T hN hT) hr (by decide) (by rfl) (pa_cons (pv 1) (pa_cons pe_int pa_nil)))))
      (pss_cons (ps_set (i := 3) sc_law.nd rfl (by first | exact .inl rfl | exact .inr rfl) (pe_op op_add pe_int (pe_c (cal_law_take T hN hT) hr (by decide) (by rfl) (pa_cons (pv 1) (pa_cons (pe_ix (ixL K rfl) (pe_lst (pa_cons pe_int (pa_cons pe_int (pa_cons pe_int (pa_cons pe_int pa_nil))))) (pe_op op_sub (pv 2) pe_int) (fun _ _ => rfl)) pa_nil)))))
      (pss_cons (ps_set (i := 4) sc_law.nd rfl (by first | exact .inl rfl | exact .inr rfl) (pe_c (cal_sublattices T hN hT) hr (by decide) (by rfl) (pa_cons (pv 2) (pa_cons (pv 3) pa_nil))))
      (pss_cons (ps_set (i := 5) sc_law.nd rfl (by first | exact .inl rfl | exact .inr rfl) (pe_callB (sortMK K rfl hr) (by rfl) T.z_sorted (by decide +kernel) (pa_cons (pe_c (cal_law_tables T hN hT) hr (by decide) (by rfl) (pa_cons (pv 2) (pa_cons (pv 3) (pa_cons pe_int pa_nil)))) pa_nil)))
      (ch5 T hN hT hr))))))), ?_⟩
    refine ⟨_, rfl, a0, ns, rfl, hsc, hl, fun p H1 s1 np st1 => ?_⟩
    refine ⟨_, rfl, p, 4, rfl, st1, by decide, by decide, fun n0 H2 hn2 o2 st2 => ?_⟩
    refine ⟨_, _, rfl, rfl, ?_⟩
    obtain ⟨n, hn, hnn⟩ : ∃ n : Nat, 1 + (n0 : Int) = (n : Int) ∧ n = n0 + 1 := ⟨n0 + 1, by omega, rfl⟩
    dsimp only
    rw [hn]
    refine ⟨_, rfl, by show 4 ≤ sizeLine; decide, fun L nL => ?_⟩
    have sL := same_upd (o := .lst [V.int 60, V.int 60, V.int 12, V.int 4]) nL
    obtain ⟨cap, hcap, hat⟩ : ∃ cap : Nat, (1 ≤ cap ∧ cap ≤ 60 ∧ ∀ i, 1 ≤ i → i ≤ cap → SizeOk n i) ∧ atI [V.int 60, V.int 60, V.int 12, V.int 4] ((n : Int) - 1) = some (V.int (cap : Int)) := by
      rcases (show n = 1 ∨ n = 2 ∨ n = 3 ∨ n = 4 by omega) with rfl | rfl | rfl | rfl
      · exact ⟨60, ⟨by omega, by omega, fun i h1 h2 => ⟨h1, by omega⟩⟩, atI_nat (j := 0) rfl⟩
      · exact ⟨60, ⟨by omega, by omega, fun i h1 h2 => ⟨h1, by omega⟩⟩, atI_nat (j := 1) rfl⟩
      · exact ⟨12, ⟨by omega, by omega, fun i h1 h2 => ⟨h1, by omega⟩⟩, atI_nat (j := 2) rfl⟩
      · exact ⟨4, ⟨by omega, by omega, fun i h1 h2 => ⟨h1, by omega⟩⟩, atI_nat (j := 3) rfl⟩
    refine ⟨_, rfl, _, _, rfl, rfl, L, _, _, _, rfl, rfl, .inl (.inl upd_same), hat, ?_⟩
    refine ⟨p, cap, rfl, st2.same sL, by omega, by omega, fun i0 H3 hi3 o3 st3 => ?_⟩
    refine ⟨_, _, rfl, rfl, ?_⟩
    obtain ⟨i, hi, hii⟩ : ∃ i : Nat, 1 + (i0 : Int) = (i : Int) ∧ i = i0 + 1 := ⟨i0 + 1, by omega, rfl⟩
    dsimp only
    rw [hi]
    have sz := hcap.2.2 i (by omega) (by omega)
    obtain ⟨n1, n4, i1, i60⟩ := sz.n1
    refine ⟨_, rfl, _, rfl, n, i, rfl, sz, fun f lf H4 s4 hf hpf => ?_⟩
    refine ⟨_, rfl, _, rfl, tabs_of n1 n4 ⟨n, i, 0, rfl, by omega, n4, i1, i60, okT_of sz, fun r l H5 s5 hr5 hp5 => ?_⟩⟩
    refine ⟨r, l, lawT n i 0, rfl, .inl (.inl hr5), hp5, ?_, fun qs ys nqs hys => ?_⟩
    · intro m hm hz
      have h2 := (okS_of sz).sz m ((perm_all sz).mem_iff.mpr hm)
      rw [hz] at h2
      have := h2.1
      simp at this
      omega
    have sq := same_upd (o := .lst ys) nqs
    have s45 := s5.trans sq
    exact ⟨⟨some (.ref a0), p, f, qs, n, i, lf, ys, rfl, (st3.same s4).same s45, sz, Same.seqT s45 hf, L2.Paired.mapP hpf fun _ _ h => IsGrid.same s45 h, upd_same, L2.Paired.mapP hys fun _ _ h => TRows.same sq h⟩, q⟩

end
end K44
namespace K44
open PySem PySem.Spec PyProof.Rows L2 Gm
theorem all_mk {l : PySem.W.OpenLaw} {w : World} {K : PySem.W.Frag} {h : Heap} {mg : Str → Option Value} {fa C_Grid X_Malformed X_Refused f1 f2 f3 f4 f5 f6 f7 f8 f9 f10 f11 f12 f13 f14 f15 f16 f17 f18 f19 f20 f21 f22 f23 f24 f25 f26 f27 f28 f29 f30 f31 f32 : Addr} (X : K.In h) (G : h.Ns mainGlobals mg) (hfa : mg "law" = some (.ref fa)) (hT : l.prog.given.tree = none)
    {od1 an1 od2 an2 od3 an3 od4 an4 od5 an5 od6 an6 od7 an7 od8 an8 od9 an9 od10 an10 od11 an11 od12 an12 od13 an13 od14 an14 od15 an15 od16 an16 od17 an17 od18 an18 od19 an19 od20 an20 od21 an21 od22 an22 od23 an23 od24 an24 od25 an25 od26 an26 od27 an27 od28 an28 od29 an29 od30 an30 od31 an31 od32 an32 : Option Addr} {sl1 sl2 sl3 sl4 sl5 sl6 sl7 sl8 sl9 sl10 sl11 sl12 sl13 sl14 sl15 sl16 sl17 sl18 sl19 sl20 sl21 sl22 sl23 sl24 sl25 sl26 sl27 sl28 sl29 sl30 sl31 sl32 : Array (Option Value)} {oc1 kV1 dc1 pm1 cd1 ct1 oc2 kV2 dc2 pm2 cd2 ct2 oc3 kV3 dc3 pm3 cd3 ct3 oc4 kV4 dc4 pm4 cd4 ct4 oc5 kV5 dc5 pm5 cd5 ct5 oc6 kV6 dc6 pm6 cd6 ct6 oc7 kV7 dc7 pm7 cd7 ct7 oc8 kV8 dc8 pm8 cd8 ct8 oc9 kV9 dc9 pm9 cd9 ct9 oc10 kV10 dc10 pm10 cd10 ct10 oc11 kV11 dc11 pm11 cd11 ct11 oc12 kV12 dc12 pm12 cd12 ct12 oc13 kV13 dc13 pm13 cd13 ct13 oc14 kV14 dc14 pm14 cd14 ct14 oc15 kV15 dc15 pm15 cd15 ct15 oc16 kV16 dc16 pm16 cd16 ct16 oc17 kV17 dc17 pm17 cd17 ct17 oc18 kV18 dc18 pm18 cd18 ct18 oc19 kV19 dc19 pm19 cd19 ct19 oc20 kV20 dc20 pm20 cd20 ct20 oc21 kV21 dc21 pm21 cd21 ct21 oc22 kV22 dc22 pm22 cd22 ct22 oc23 kV23 dc23 pm23 cd23 ct23 oc24 kV24 dc24 pm24 cd24 ct24 oc25 kV25 dc25 pm25 cd25 ct25 oc26 kV26 dc26 pm26 cd26 ct26 oc27 kV27 dc27 pm27 cd27 ct27 oc28 kV28 dc28 pm28 cd28 ct28 oc29 kV29 dc29 pm29 cd29 ct29 oc30 kV30 dc30 pm30 cd30 ct30 oc31 kV31 dc31 pm31 cd31 ct31 oc32 kV32 dc32 pm32 cd32 ct32 : Value}
    {t12 : Addr} {tc12 : Value} {td12 : Option Addr} {tn12 : Nat} {ts12 : Array (Option Value)}
    {nm_Refused q_Refused : Str} {N_Refused : Addr} {bs_Refused bm_Refused : List Value} {sn_Refused sub_Refused ab_Refused col_Refused dd_Refused k0_Refused k1_Refused k2_Refused k3_Refused k5_Refused : _}
    {tk_MOST_INDEX tk_MOST_SIZE : Tok}
    (A1 : PySem.W.findIn K (.ref X_Refused) "__init__" = some (some (.ref f1)))
    (I1 : PySem.W.isFn K (.ref f1) = true)
    (L1 : K.lookup f1 = some ⟨oc1, od1, .func (PySem.W.fnOf "__init__" "Refused.__init__" (defArgs s_Refused_init) (defBody s_Refused_init) (defScope s_Refused_init) .none kV1 dc1 pm1 an1 cd1 ct1), sl1⟩)
    (D1 : PySem.W.codeIn K cd1 "Refused.__init__" = true)
    (K1 : PySem.W.keepIn K (.ref f1) = true)
    (A2 : PySem.W.nsIn K mainGlobals "is_integer" = some (some (.ref f2)))
    (L2 : K.lookup f2 = some ⟨oc2, od2, .func (PySem.W.fnOf "is_integer" "is_integer" (defArgs s_is_integer) (defBody s_is_integer) (defScope s_is_integer) .none kV2 dc2 pm2 an2 cd2 ct2), sl2⟩)
    (D2 : PySem.W.codeIn K cd2 "is_integer" = true)
    (K2 : PySem.W.keepIn K (.ref f2) = true)
    (A3 : PySem.W.nsIn K mainGlobals "cofactors" = some (some (.ref f3)))
    (L3 : K.lookup f3 = some ⟨oc3, od3, .func (PySem.W.fnOf "cofactors" "cofactors" (defArgs s_cofactors) (defBody s_cofactors) (defScope s_cofactors) .none kV3 dc3 pm3 an3 cd3 ct3), sl3⟩)
    (D3 : PySem.W.codeIn K cd3 "cofactors" = true)
    (K3 : PySem.W.keepIn K (.ref f3) = true)
    (A4 : PySem.W.nsIn K mainGlobals "divisors" = some (some (.ref f4)))
    (L4 : K.lookup f4 = some ⟨oc4, od4, .func (PySem.W.fnOf "divisors" "divisors" (defArgs s_divisors) (defBody s_divisors) (defScope s_divisors) .none kV4 dc4 pm4 an4 cd4 ct4), sl4⟩)
    (D4 : PySem.W.codeIn K cd4 "divisors" = true)
    (K4 : PySem.W.keepIn K (.ref f4) = true)
    (A5 : PySem.W.nsIn K mainGlobals "with_powers" = some (some (.ref f5)))
    (L5 : K.lookup f5 = some ⟨oc5, od5, .func (PySem.W.fnOf "with_powers" "with_powers" (defArgs s_with_powers) (defBody s_with_powers) (defScope s_with_powers) .none kV5 dc5 pm5 an5 cd5 ct5), sl5⟩)
    (D5 : PySem.W.codeIn K cd5 "with_powers" = true)
    (K5 : PySem.W.keepIn K (.ref f5) = true)
    (A6 : PySem.W.nsIn K mainGlobals "hermite_rows" = some (some (.ref f6)))
    (L6 : K.lookup f6 = some ⟨oc6, od6, .func (PySem.W.fnOf "hermite_rows" "hermite_rows" (defArgs s_hermite_rows) (defBody s_hermite_rows) (defScope s_hermite_rows) .none kV6 dc6 pm6 an6 cd6 ct6), sl6⟩)
    (D6 : PySem.W.codeIn K cd6 "hermite_rows" = true)
    (K6 : PySem.W.keepIn K (.ref f6) = true)
    (A7 : PySem.W.nsIn K mainGlobals "with_row" = some (some (.ref f7)))
    (L7 : K.lookup f7 = some ⟨oc7, od7, .func (PySem.W.fnOf "with_row" "with_row" (defArgs s_with_row) (defBody s_with_row) (defScope s_with_row) .none kV7 dc7 pm7 an7 cd7 ct7), sl7⟩)
    (D7 : PySem.W.codeIn K cd7 "with_row" = true)
    (K7 : PySem.W.keepIn K (.ref f7) = true)
    (A8 : PySem.W.nsIn K mainGlobals "merged" = some (some (.ref f8)))
    (L8 : K.lookup f8 = some ⟨oc8, od8, .func (PySem.W.fnOf "merged" "merged" (defArgs s_merged) (defBody s_merged) (defScope s_merged) .none kV8 dc8 pm8 an8 cd8 ct8), sl8⟩)
    (D8 : PySem.W.codeIn K cd8 "merged" = true)
    (K8 : PySem.W.keepIn K (.ref f8) = true)
    (A9 : PySem.W.nsIn K mainGlobals "mixed" = some (some (.ref f9)))
    (L9 : K.lookup f9 = some ⟨oc9, od9, .func (PySem.W.fnOf "mixed" "mixed" (defArgs s_mixed) (defBody s_mixed) (defScope s_mixed) .none kV9 dc9 pm9 an9 cd9 ct9), sl9⟩)
    (D9 : PySem.W.codeIn K cd9 "mixed" = true)
    (K9 : PySem.W.keepIn K (.ref f9) = true)
    (A10 : PySem.W.nsIn K mainGlobals "tidied" = some (some (.ref f10)))
    (L10 : K.lookup f10 = some ⟨oc10, od10, .func (PySem.W.fnOf "tidied" "tidied" (defArgs s_tidied) (defBody s_tidied) (defScope s_tidied) .none kV10 dc10 pm10 an10 cd10 ct10), sl10⟩)
    (D10 : PySem.W.codeIn K cd10 "tidied" = true)
    (K10 : PySem.W.keepIn K (.ref f10) = true)
    (A11 : PySem.W.nsIn K mainGlobals "reduced" = some (some (.ref f11)))
    (L11 : K.lookup f11 = some ⟨oc11, od11, .func (PySem.W.fnOf "reduced" "reduced" (defArgs s_reduced) (defBody s_reduced) (defScope s_reduced) .none kV11 dc11 pm11 an11 cd11 ct11), sl11⟩)
    (D11 : PySem.W.codeIn K cd11 "reduced" = true)
    (K11 : PySem.W.keepIn K (.ref f11) = true)
    (A12 : PySem.W.findIn K (.ref C_Grid) "__init__" = some (some (.ref f12)))
    (I12 : PySem.W.isFn K (.ref f12) = true)
    (L12 : K.lookup f12 = some ⟨oc12, od12, .func (PySem.W.fnOf "__init__" "Grid.__init__" (defArgs s_Grid_init) (defBody s_Grid_init) (defScope s_Grid_init) (.ref t12) kV12 dc12 pm12 an12 cd12 ct12), sl12⟩)
    (T12 : K.lookup t12 = some ⟨tc12, td12, .seq [Value.none].toArray tn12, ts12⟩)
    (D12 : PySem.W.codeIn K cd12 "Grid.__init__" = true)
    (K12 : PySem.W.keepIn K (.ref f12) = true)
    (A13 : PySem.W.findIn K (.ref C_Grid) "__eq__" = some (some (.ref f13)))
    (I13 : PySem.W.isFn K (.ref f13) = true)
    (L13 : K.lookup f13 = some ⟨oc13, od13, .func (PySem.W.fnOf "__eq__" "Grid.__eq__" (defArgs s_Grid_eq) (defBody s_Grid_eq) (defScope s_Grid_eq) .none kV13 dc13 pm13 an13 cd13 ct13), sl13⟩)
    (D13 : PySem.W.codeIn K cd13 "Grid.__eq__" = true)
    (K13 : PySem.W.keepIn K (.ref f13) = true)
    (A14 : PySem.W.findIn K (.ref C_Grid) "hermite" = some (some (.ref f14)))
    (I14 : PySem.W.isFn K (.ref f14) = true)
    (L14 : K.lookup f14 = some ⟨oc14, od14, .func (PySem.W.fnOf "hermite" "Grid.hermite" (defArgs s_Grid_hermite) (defBody s_Grid_hermite) (defScope s_Grid_hermite) .none kV14 dc14 pm14 an14 cd14 ct14), sl14⟩)
    (D14 : PySem.W.codeIn K cd14 "Grid.hermite" = true)
    (K14 : PySem.W.keepIn K (.ref f14) = true)
    (A15 : PySem.W.nsIn K mainGlobals "checked_rows" = some (some (.ref f15)))
    (L15 : K.lookup f15 = some ⟨oc15, od15, .func (PySem.W.fnOf "checked_rows" "checked_rows" (defArgs s_checked_rows) (defBody s_checked_rows) (defScope s_checked_rows) .none kV15 dc15 pm15 an15 cd15 ct15), sl15⟩)
    (D15 : PySem.W.codeIn K cd15 "checked_rows" = true)
    (K15 : PySem.W.keepIn K (.ref f15) = true)
    (A16 : PySem.W.nsIn K mainGlobals "checked_width" = some (some (.ref f16)))
    (L16 : K.lookup f16 = some ⟨oc16, od16, .func (PySem.W.fnOf "checked_width" "checked_width" (defArgs s_checked_width) (defBody s_checked_width) (defScope s_checked_width) .none kV16 dc16 pm16 an16 cd16 ct16), sl16⟩)
    (D16 : PySem.W.codeIn K cd16 "checked_width" = true)
    (K16 : PySem.W.keepIn K (.ref f16) = true)
    (A17 : PySem.W.nsIn K mainGlobals "unit" = some (some (.ref f17)))
    (L17 : K.lookup f17 = some ⟨oc17, od17, .func (PySem.W.fnOf "unit" "unit" (defArgs s_unit) (defBody s_unit) (defScope s_unit) .none kV17 dc17 pm17 an17 cd17 ct17), sl17⟩)
    (D17 : PySem.W.codeIn K cd17 "unit" = true)
    (K17 : PySem.W.keepIn K (.ref f17) = true)
    (A18 : PySem.W.nsIn K mainGlobals "diagonal" = some (some (.ref f18)))
    (L18 : K.lookup f18 = some ⟨oc18, od18, .func (PySem.W.fnOf "diagonal" "diagonal" (defArgs s_diagonal) (defBody s_diagonal) (defScope s_diagonal) .none kV18 dc18 pm18 an18 cd18 ct18), sl18⟩)
    (D18 : PySem.W.codeIn K cd18 "diagonal" = true)
    (K18 : PySem.W.keepIn K (.ref f18) = true)
    (A19 : PySem.W.nsIn K mainGlobals "sublattices" = some (some (.ref f19)))
    (L19 : K.lookup f19 = some ⟨oc19, od19, .func (PySem.W.fnOf "sublattices" "sublattices" (defArgs s_sublattices) (defBody s_sublattices) (defScope s_sublattices) .none kV19 dc19 pm19 an19 cd19 ct19), sl19⟩)
    (D19 : PySem.W.codeIn K cd19 "sublattices" = true)
    (K19 : PySem.W.keepIn K (.ref f19) = true)
    (A20 : PySem.W.nsIn K mainGlobals "check_number" = some (some (.ref f20)))
    (L20 : K.lookup f20 = some ⟨oc20, od20, .func (PySem.W.fnOf "check_number" "check_number" (defArgs s_check_number) (defBody s_check_number) (defScope s_check_number) .none kV20 dc20 pm20 an20 cd20 ct20), sl20⟩)
    (D20 : PySem.W.codeIn K cd20 "check_number" = true)
    (K20 : PySem.W.keepIn K (.ref f20) = true)
    (A21 : PySem.W.nsIn K mainGlobals "pivot_tuples" = some (some (.ref f21)))
    (L21 : K.lookup f21 = some ⟨oc21, od21, .func (PySem.W.fnOf "pivot_tuples" "pivot_tuples" (defArgs s_pivot_tuples) (defBody s_pivot_tuples) (defScope s_pivot_tuples) .none kV21 dc21 pm21 an21 cd21 ct21), sl21⟩)
    (D21 : PySem.W.codeIn K cd21 "pivot_tuples" = true)
    (K21 : PySem.W.keepIn K (.ref f21) = true)
    (A22 : PySem.W.nsIn K mainGlobals "forms_with" = some (some (.ref f22)))
    (L22 : K.lookup f22 = some ⟨oc22, od22, .func (PySem.W.fnOf "forms_with" "forms_with" (defArgs s_forms_with) (defBody s_forms_with) (defScope s_forms_with) .none kV22 dc22 pm22 an22 cd22 ct22), sl22⟩)
    (D22 : PySem.W.codeIn K cd22 "forms_with" = true)
    (K22 : PySem.W.keepIn K (.ref f22) = true)
    (A23 : PySem.W.nsIn K mainGlobals "_law_state" = some (some (.ref f23)))
    (L23 : K.lookup f23 = some ⟨oc23, od23, .func (PySem.W.fnOf "_law_state" "_law_state" (defArgs s_law_state) (defBody s_law_state) (defScope s_law_state) .none kV23 dc23 pm23 an23 cd23 ct23), sl23⟩)
    (D23 : PySem.W.codeIn K cd23 "_law_state" = true)
    (K23 : PySem.W.keepIn K (.ref f23) = true)
    (A24 : PySem.W.nsIn K mainGlobals "_law_take" = some (some (.ref f24)))
    (L24 : K.lookup f24 = some ⟨oc24, od24, .func (PySem.W.fnOf "_law_take" "_law_take" (defArgs s_law_take) (defBody s_law_take) (defScope s_law_take) .none kV24 dc24 pm24 an24 cd24 ct24), sl24⟩)
    (D24 : PySem.W.codeIn K cd24 "_law_take" = true)
    (K24 : PySem.W.keepIn K (.ref f24) = true)
    (A25 : PySem.W.nsIn K mainGlobals "_law_product" = some (some (.ref f25)))
    (L25 : K.lookup f25 = some ⟨oc25, od25, .func (PySem.W.fnOf "_law_product" "_law_product" (defArgs s_law_product) (defBody s_law_product) (defScope s_law_product) .none kV25 dc25 pm25 an25 cd25 ct25), sl25⟩)
    (D25 : PySem.W.codeIn K cd25 "_law_product" = true)
    (K25 : PySem.W.keepIn K (.ref f25) = true)
    (A26 : PySem.W.nsIn K mainGlobals "_law_unit" = some (some (.ref f26)))
    (L26 : K.lookup f26 = some ⟨oc26, od26, .func (PySem.W.fnOf "_law_unit" "_law_unit" (defArgs s_law_unit) (defBody s_law_unit) (defScope s_law_unit) .none kV26 dc26 pm26 an26 cd26 ct26), sl26⟩)
    (D26 : PySem.W.codeIn K cd26 "_law_unit" = true)
    (K26 : PySem.W.keepIn K (.ref f26) = true)
    (A27 : PySem.W.nsIn K mainGlobals "_law_step" = some (some (.ref f27)))
    (L27 : K.lookup f27 = some ⟨oc27, od27, .func (PySem.W.fnOf "_law_step" "_law_step" (defArgs s_law_step) (defBody s_law_step) (defScope s_law_step) .none kV27 dc27 pm27 an27 cd27 ct27), sl27⟩)
    (D27 : PySem.W.codeIn K cd27 "_law_step" = true)
    (K27 : PySem.W.keepIn K (.ref f27) = true)
    (A28 : PySem.W.nsIn K mainGlobals "_law_unimodular" = some (some (.ref f28)))
    (L28 : K.lookup f28 = some ⟨oc28, od28, .func (PySem.W.fnOf "_law_unimodular" "_law_unimodular" (defArgs s_law_unimodular) (defBody s_law_unimodular) (defScope s_law_unimodular) .none kV28 dc28 pm28 an28 cd28 ct28), sl28⟩)
    (D28 : PySem.W.codeIn K cd28 "_law_unimodular" = true)
    (K28 : PySem.W.keepIn K (.ref f28) = true)
    (A29 : PySem.W.nsIn K mainGlobals "_law_longer" = some (some (.ref f29)))
    (L29 : K.lookup f29 = some ⟨oc29, od29, .func (PySem.W.fnOf "_law_longer" "_law_longer" (defArgs s_law_longer) (defBody s_law_longer) (defScope s_law_longer) .none kV29 dc29 pm29 an29 cd29 ct29), sl29⟩)
    (D29 : PySem.W.codeIn K cd29 "_law_longer" = true)
    (K29 : PySem.W.keepIn K (.ref f29) = true)
    (A30 : PySem.W.nsIn K mainGlobals "_law_tables" = some (some (.ref f30)))
    (L30 : K.lookup f30 = some ⟨oc30, od30, .func (PySem.W.fnOf "_law_tables" "_law_tables" (defArgs s_law_tables) (defBody s_law_tables) (defScope s_law_tables) .none kV30 dc30 pm30 an30 cd30 ct30), sl30⟩)
    (D30 : PySem.W.codeIn K cd30 "_law_tables" = true)
    (K30 : PySem.W.keepIn K (.ref f30) = true)
    (A31 : PySem.W.nsIn K mainGlobals "_law_refused" = some (some (.ref f31)))
    (L31 : K.lookup f31 = some ⟨oc31, od31, .func (PySem.W.fnOf "_law_refused" "_law_refused" (defArgs s_law_refused) (defBody s_law_refused) (defScope s_law_refused) .none kV31 dc31 pm31 an31 cd31 ct31), sl31⟩)
    (D31 : PySem.W.codeIn K cd31 "_law_refused" = true)
    (K31 : PySem.W.keepIn K (.ref f31) = true)
    (A32 : PySem.W.nsIn K mainGlobals "law" = some (some (.ref f32)))
    (L32 : K.lookup f32 = some ⟨oc32, od32, .func (PySem.W.fnOf "law" "law" (defArgs s_law) (defBody s_law) (defScope s_law) .none kV32 dc32 pm32 an32 cd32 ct32), sl32⟩)
    (D32 : PySem.W.codeIn K cd32 "law" = true)
    (K32 : PySem.W.keepIn K (.ref f32) = true)
    (aC_Grid : PySem.W.nsIn K mainGlobals "Grid" = some (some (.ref C_Grid)))
    (pg_Grid : PySem.W.plainGet K C_Grid Str.empty = true)
    (hd_Grid : PySem.W.hasDictIn K C_Grid = true)
    (po_Grid : PySem.W.plainOver K C_Grid = true)
    (sa_Grid : PySem.W.findIn K (.ref C_Grid) "__setattr__" = some (some (.builtin "object.__setattr__")))
    (mk_Grid : PySem.W.makesIn K C_Grid = true)
    (kc_Grid : PySem.W.keepIn K (.ref C_Grid) = true)
    (nrows_Grid : PySem.W.findIn K (.ref C_Grid) "rows" = some none)
    (nwidth_Grid : PySem.W.findIn K (.ref C_Grid) "width" = some none)
    (sf_Grid : PySem.W.selfFirst K C_Grid = true)
    (yc_Grid : PySem.W.findIn K (.ref C_Grid) "__class__" = some (some (.builtin "object.__class__")))
    (yg_Grid : PySem.W.specialIn K (.builtin "object.__class__") "__get__" = some (some (.builtin "getset_descriptor.__get__")))
    (yt_Grid : PySem.W.takesIn K (.builtin "object.__class__") = some true)
    (ym_Grid : PySem.W.mroIn K C_Grid (.type "object") = some true)
    (yt2_Grid : PySem.W.typeIn K (.ref C_Grid) = some (.type "type"))
    (yi_Grid : PySem.W.isClsIn K C_Grid = true)
    (yn_Grid : PySem.W.findIn K (.ref C_Grid) "__ne__" = some (some (.builtin "object.__ne__")))
    (c_MOST_INDEX : PySem.W.nsIn K mainGlobals "MOST_INDEX" = some (some (.int 60 tk_MOST_INDEX)))
    (c_MOST_SIZE : PySem.W.nsIn K mainGlobals "MOST_SIZE" = some (some (.int 4 tk_MOST_SIZE)))
    (z_ValueError : PySem.W.nsIn K mainGlobals "ValueError" = some none)
    (z_abs : PySem.W.nsIn K mainGlobals "abs" = some none)
    (z_all : PySem.W.nsIn K mainGlobals "all" = some none)
    (z_bool : PySem.W.nsIn K mainGlobals "bool" = some none)
    (z_dict : PySem.W.nsIn K mainGlobals "dict" = some none)
    (z_int : PySem.W.nsIn K mainGlobals "int" = some none)
    (z_isinstance : PySem.W.nsIn K mainGlobals "isinstance" = some none)
    (z_len : PySem.W.nsIn K mainGlobals "len" = some none)
    (z_list : PySem.W.nsIn K mainGlobals "list" = some none)
    (z_range : PySem.W.nsIn K mainGlobals "range" = some none)
    (z_sorted : PySem.W.nsIn K mainGlobals "sorted" = some none)
    (z_tuple : PySem.W.nsIn K mainGlobals "tuple" = some none)
    (z_zip : PySem.W.nsIn K mainGlobals "zip" = some none)
    (aX_Malformed : PySem.W.nsIn K mainGlobals "Malformed" = some (some (.ref X_Malformed)))
    (xX_Malformed : PySem.W.excIn K X_Malformed [.type "ValueError", .type "Exception", .type "BaseException", .type "object"] "ValueError.__new__" = true)
    (kX_Malformed : PySem.W.keepIn K (.ref X_Malformed) = true)
    (bX_Malformed : PySem.W.subIn K (.ref X_Malformed) (.type "BaseException") = some true)
    (tX_Malformed : PySem.W.typeIn K (.ref X_Malformed) = some (.type "type"))
    (iX_Malformed : PySem.W.isClsIn K X_Malformed = true)
    (sX_Malformed : PySem.W.subIn K (.ref X_Malformed) (.ref X_Malformed) = some true)
    (aX_Refused : PySem.W.nsIn K mainGlobals "Refused" = some (some (.ref X_Refused)))
    (kX_Refused : PySem.W.keepIn K (.ref X_Refused) = true)
    (bX_Refused : PySem.W.subIn K (.ref X_Refused) (.type "BaseException") = some true)
    (tX_Refused : PySem.W.typeIn K (.ref X_Refused) = some (.type "type"))
    (iX_Refused : PySem.W.isClsIn K X_Refused = true)
    (sX_Refused : PySem.W.subIn K (.ref X_Refused) (.ref X_Refused) = some true)
    (lX_Refused : K.lookup X_Refused = some (excClassObj nm_Refused q_Refused X_Refused N_Refused bs_Refused bm_Refused true sn_Refused sub_Refused ab_Refused col_Refused dd_Refused k0_Refused k1_Refused k2_Refused k3_Refused k5_Refused "ValueError.__new__"))
    (rX_Refused : PySem.HandSPX.refsVE bm_Refused = true)
    (saX_Refused : PySem.W.findIn K (.ref X_Refused) "__setattr__" = some (some (.builtin "object.__setattr__")))
    (jI_Refused : PySem.W.typeIn K (.ref f1) = some (.type "function"))
    (nf_Refused : PySem.W.findIn K (.ref X_Refused) "reason" = some none)
    (gaX_Refused : PySem.W.findIn K (.ref X_Refused) "__getattribute__" = some (some (.builtin "BaseException.__getattribute__")))
    (ggX_Refused : PySem.W.findIn K (.ref X_Refused) "__getattr__" = some none)
    (hdX_Refused : PySem.W.hasDictIn K X_Refused = true)
    (mX_Refused : PySem.W.mroIn K X_Refused (.type "object") = some true)
    (hX_Refused : PySem.W.findIn K (.ref X_Refused) "__class__" = some (some (.builtin "object.__class__")))
    (sub_Refused_Malformed : PySem.W.subIn K (.ref X_Refused) (.ref X_Malformed) = some false)
    (sub_Malformed_Refused : PySem.W.subIn K (.ref X_Malformed) (.ref X_Refused) = some false)
    : ∃ fd : FuncData, (∀ (s : Shared) (v : Value), BindsTo s fd ⟨[v], []⟩ [("script", v)]) ∧ ∀ base : Heap, K.In base → base.Ns mainGlobals mg → base.NoSeer → FnOk l.prog w K mg base CX0 49 fa fd ["script"] (sp_law K) := by
  have e := hfa.symm.trans (PySem.W.mg_of X G A32)
  cases e
  have F1 := fun_mk (st := s_Refused_init) L1 D1 K1
  have b1 := F1.binds (ps := ["self", "reason"]) fun _ _ _ _ _ _ us hl => match us, hl with | [_, _], _ => rfl
  have F2 := fun_mk (st := s_is_integer) L2 D2 K2
  have b2 := F2.binds (ps := ["value"]) fun _ _ _ _ _ _ us hl => match us, hl with | [_], _ => rfl
  have F3 := fun_mk (st := s_cofactors) L3 D3 K3
  have b3 := F3.binds (ps := ["a", "b"]) fun _ _ _ _ _ _ us hl => match us, hl with | [_, _], _ => rfl
  have F4 := fun_mk (st := s_divisors) L4 D4 K4
  have b4 := F4.binds (ps := ["n"]) fun _ _ _ _ _ _ us hl => match us, hl with | [_], _ => rfl
  have F5 := fun_mk (st := s_with_powers) L5 D5 K5
  have b5 := F5.binds (ps := ["numbers", "prime", "many"]) fun _ _ _ _ _ _ us hl => match us, hl with | [_, _, _], _ => rfl
  have F6 := fun_mk (st := s_hermite_rows) L6 D6 K6
  have b6 := F6.binds (ps := ["rows"]) fun _ _ _ _ _ _ us hl => match us, hl with | [_], _ => rfl
  have F7 := fun_mk (st := s_with_row) L7 D7 K7
  have b7 := F7.binds (ps := ["tops", "row"]) fun _ _ _ _ _ _ us hl => match us, hl with | [_, _], _ => rfl
  have F8 := fun_mk (st := s_merged) L8 D8 K8
  have b8 := F8.binds (ps := ["top", "row", "column"]) fun _ _ _ _ _ _ us hl => match us, hl with | [_, _, _], _ => rfl
  have F9 := fun_mk (st := s_mixed) L9 D9 K9
  have b9 := F9.binds (ps := ["a", "first", "b", "second"]) fun _ _ _ _ _ _ us hl => match us, hl with | [_, _, _, _], _ => rfl
  have F10 := fun_mk (st := s_tidied) L10 D10 K10
  have b10 := F10.binds (ps := ["tops"]) fun _ _ _ _ _ _ us hl => match us, hl with | [_], _ => rfl
  have F11 := fun_mk (st := s_reduced) L11 D11 K11
  have b11 := F11.binds (ps := ["row", "tops"]) fun _ _ _ _ _ _ us hl => match us, hl with | [_, _], _ => rfl
  have F12 : FunD K "__init__" "Grid.__init__" (defArgs s_Grid_init) (defBody s_Grid_init) (defScope s_Grid_init) [.non] [] f12 _ := ⟨⟨oc12, od12, _, kV12, dc12, pm12, an12, cd12, ct12, sl12, rfl, L12, D12, .inr ⟨by simp, t12, _, [.none], tn12, rfl, T12, rfl, .cons rfl .nil⟩, .inl rfl⟩, K12⟩
  obtain ⟨ds12, vd12, b12⟩ := F12.binds1 (ps := ["self", "rows", "width"]) 3 1 (by simp) rfl fun _ _ _ _ _ _ _ us its hl hi => match us, hl, its, hi with | [_, _, _], _, [_], _ => ⟨_, rfl, rfl⟩
  obtain rfl : ds12 = [] := by cases vd12; rfl
  have F13 := fun_mk (st := s_Grid_eq) L13 D13 K13
  have b13 := F13.binds (ps := ["self", "other"]) fun _ _ _ _ _ _ us hl => match us, hl with | [_, _], _ => rfl
  have F14 := fun_mk (st := s_Grid_hermite) L14 D14 K14
  have b14 := F14.binds (ps := ["self"]) fun _ _ _ _ _ _ us hl => match us, hl with | [_], _ => rfl
  have F15 := fun_mk (st := s_checked_rows) L15 D15 K15
  have b15 := F15.binds (ps := ["rows"]) fun _ _ _ _ _ _ us hl => match us, hl with | [_], _ => rfl
  have F16 := fun_mk (st := s_checked_width) L16 D16 K16
  have b16 := F16.binds (ps := ["rows", "width"]) fun _ _ _ _ _ _ us hl => match us, hl with | [_, _], _ => rfl
  have F17 := fun_mk (st := s_unit) L17 D17 K17
  have b17 := F17.binds (ps := ["n"]) fun _ _ _ _ _ _ us hl => match us, hl with | [_], _ => rfl
  have F18 := fun_mk (st := s_diagonal) L18 D18 K18
  have b18 := F18.binds (ps := ["numbers"]) fun _ _ _ _ _ _ us hl => match us, hl with | [_], _ => rfl
  have F19 := fun_mk (st := s_sublattices) L19 D19 K19
  have b19 := F19.binds (ps := ["n", "index"]) fun _ _ _ _ _ _ us hl => match us, hl with | [_, _], _ => rfl
  have F20 := fun_mk (st := s_check_number) L20 D20 K20
  have b20 := F20.binds (ps := ["value", "most"]) fun _ _ _ _ _ _ us hl => match us, hl with | [_, _], _ => rfl
  have F21 := fun_mk (st := s_pivot_tuples) L21 D21 K21
  have b21 := F21.binds (ps := ["n", "index"]) fun _ _ _ _ _ _ us hl => match us, hl with | [_, _], _ => rfl
  have F22 := fun_mk (st := s_forms_with) L22 D22 K22
  have b22 := F22.binds (ps := ["pivots"]) fun _ _ _ _ _ _ us hl => match us, hl with | [_], _ => rfl
  have F23 := fun_mk (st := s_law_state) L23 D23 K23
  have b23 := F23.binds (ps := ["script"]) fun _ _ _ _ _ _ us hl => match us, hl with | [_], _ => rfl
  have F24 := fun_mk (st := s_law_take) L24 D24 K24
  have b24 := F24.binds (ps := ["state", "m"]) fun _ _ _ _ _ _ us hl => match us, hl with | [_, _], _ => rfl
  have F25 := fun_mk (st := s_law_product) L25 D25 K25
  have b25 := F25.binds (ps := ["a", "b", "width"]) fun _ _ _ _ _ _ us hl => match us, hl with | [_, _, _], _ => rfl
  have F26 := fun_mk (st := s_law_unit) L26 D26 K26
  have b26 := F26.binds (ps := ["n"]) fun _ _ _ _ _ _ us hl => match us, hl with | [_], _ => rfl
  have F27 := fun_mk (st := s_law_step) L27 D27 K27
  have b27 := F27.binds (ps := ["rows", "i", "k", "factor"]) fun _ _ _ _ _ _ us hl => match us, hl with | [_, _, _, _], _ => rfl
  have F28 := fun_mk (st := s_law_unimodular) L28 D28 K28
  have b28 := F28.binds (ps := ["state", "n"]) fun _ _ _ _ _ _ us hl => match us, hl with | [_, _], _ => rfl
  have F29 := fun_mk (st := s_law_longer) L29 D29 K29
  have b29 := F29.binds (ps := ["rows", "pivot"]) fun _ _ _ _ _ _ us hl => match us, hl with | [_, _], _ => rfl
  have F30 := fun_mk (st := s_law_tables) L30 D30 K30
  have b30 := F30.binds (ps := ["n", "index", "at"]) fun _ _ _ _ _ _ us hl => match us, hl with | [_, _, _], _ => rfl
  have F31 := fun_mk (st := s_law_refused) L31 D31 K31
  have b31 := F31.binds (ps := ["n", "index"]) fun _ _ _ _ _ _ us hl => match us, hl with | [_, _], _ => rfl
  have F32 := fun_mk (st := s_law) L32 D32 K32
  have b32 := F32.binds (ps := ["script"]) fun _ _ _ _ _ _ us hl => match us, hl with | [_], _ => rfl
  let T : Top K mg := { a_Refused_init := f1, d_Refused_init := _, F_Refused_init := F1, b_Refused_init := b1, a_is_integer := f2, d_is_integer := _, F_is_integer := F2, b_is_integer := b2, g_is_integer := PySem.W.mg_of X G A2, a_cofactors := f3, d_cofactors := _, F_cofactors := F3, b_cofactors := b3, g_cofactors := PySem.W.mg_of X G A3, a_divisors := f4, d_divisors := _, F_divisors := F4, b_divisors := b4, g_divisors := PySem.W.mg_of X G A4, a_with_powers := f5, d_with_powers := _, F_with_powers := F5, b_with_powers := b5, g_with_powers := PySem.W.mg_of X G A5, a_hermite_rows := f6, d_hermite_rows := _, F_hermite_rows := F6, b_hermite_rows := b6, g_hermite_rows := PySem.W.mg_of X G A6, a_with_row := f7, d_with_row := _, F_with_row := F7, b_with_row := b7, g_with_row := PySem.W.mg_of X G A7, a_merged := f8, d_merged := _, F_merged := F8, b_merged := b8, g_merged := PySem.W.mg_of X G A8, a_mixed := f9, d_mixed := _, F_mixed := F9, b_mixed := b9, g_mixed := PySem.W.mg_of X G A9, a_tidied := f10, d_tidied := _, F_tidied := F10, b_tidied := b10, g_tidied := PySem.W.mg_of X G A10, a_reduced := f11, d_reduced := _, F_reduced := F11, b_reduced := b11, g_reduced := PySem.W.mg_of X G A11, a_Grid_init := f12, d_Grid_init := _, F_Grid_init := F12, b_Grid_init := b12, a_Grid_eq := f13, d_Grid_eq := _, F_Grid_eq := F13, b_Grid_eq := b13, m_Grid_eq := ⟨A13, I13, K13⟩, a_Grid_hermite := f14, d_Grid_hermite := _, F_Grid_hermite := F14, b_Grid_hermite := b14, m_Grid_hermite := ⟨A14, I14, K14⟩, a_checked_rows := f15, d_checked_rows := _, F_checked_rows := F15, b_checked_rows := b15, g_checked_rows := PySem.W.mg_of X G A15, a_checked_width := f16, d_checked_width := _, F_checked_width := F16, b_checked_width := b16, g_checked_width := PySem.W.mg_of X G A16, a_unit := f17, d_unit := _, F_unit := F17, b_unit := b17, g_unit := PySem.W.mg_of X G A17, a_diagonal := f18, d_diagonal := _, F_diagonal := F18, b_diagonal := b18, g_diagonal := PySem.W.mg_of X G A18, a_sublattices := f19, d_sublattices := _, F_sublattices := F19, b_sublattices := b19, g_sublattices := PySem.W.mg_of X G A19, a_check_number := f20, d_check_number := _, F_check_number := F20, b_check_number := b20, g_check_number := PySem.W.mg_of X G A20, a_pivot_tuples := f21, d_pivot_tuples := _, F_pivot_tuples := F21, b_pivot_tuples := b21, g_pivot_tuples := PySem.W.mg_of X G A21, a_forms_with := f22, d_forms_with := _, F_forms_with := F22, b_forms_with := b22, g_forms_with := PySem.W.mg_of X G A22, a_law_state := f23, d_law_state := _, F_law_state := F23, b_law_state := b23, g_law_state := PySem.W.mg_of X G A23, a_law_take := f24, d_law_take := _, F_law_take := F24, b_law_take := b24, g_law_take := PySem.W.mg_of X G A24, a_law_product := f25, d_law_product := _, F_law_product := F25, b_law_product := b25, g_law_product := PySem.W.mg_of X G A25, a_law_unit := f26, d_law_unit := _, F_law_unit := F26, b_law_unit := b26, g_law_unit := PySem.W.mg_of X G A26, a_law_step := f27, d_law_step := _, F_law_step := F27, b_law_step := b27, g_law_step := PySem.W.mg_of X G A27, a_law_unimodular := f28, d_law_unimodular := _, F_law_unimodular := F28, b_law_unimodular := b28, g_law_unimodular := PySem.W.mg_of X G A28, a_law_longer := f29, d_law_longer := _, F_law_longer := F29, b_law_longer := b29, g_law_longer := PySem.W.mg_of X G A29, a_law_tables := f30, d_law_tables := _, F_law_tables := F30, b_law_tables := b30, g_law_tables := PySem.W.mg_of X G A30, a_law_refused := f31, d_law_refused := _, F_law_refused := F31, b_law_refused := b31, g_law_refused := PySem.W.mg_of X G A31, a_law := fa, d_law := _, F_law := F32, b_law := b32, g_law := PySem.W.mg_of X G A32, C_Grid := C_Grid, g_Grid := PySem.W.mg_of X G aC_Grid, cl_Grid := ⟨pg_Grid, hd_Grid, po_Grid, sa_Grid⟩, mk_Grid := ⟨mk_Grid, A12, I12, kc_Grid⟩, n_rows := nrows_Grid, n_width := nwidth_Grid, sf_Grid := sf_Grid, kc_Grid := yc_Grid, kg_Grid := yg_Grid, kt_Grid := yt_Grid, km_Grid := ym_Grid, ty_Grid := yt2_Grid, ic_Grid := yi_Grid, ne_Grid := yn_Grid, g_MOST_INDEX := PySem.W.mg_of X G c_MOST_INDEX, k_MOST_INDEX := tk_MOST_INDEX, g_MOST_SIZE := PySem.W.mg_of X G c_MOST_SIZE, k_MOST_SIZE := tk_MOST_SIZE, z_ValueError := PySem.W.mg_none_of X G z_ValueError, z_abs := PySem.W.mg_none_of X G z_abs, z_all := PySem.W.mg_none_of X G z_all, z_bool := PySem.W.mg_none_of X G z_bool, z_dict := PySem.W.mg_none_of X G z_dict, z_int := PySem.W.mg_none_of X G z_int, z_isinstance := PySem.W.mg_none_of X G z_isinstance, z_len := PySem.W.mg_none_of X G z_len, z_list := PySem.W.mg_none_of X G z_list, z_range := PySem.W.mg_none_of X G z_range, z_sorted := PySem.W.mg_none_of X G z_sorted, z_tuple := PySem.W.mg_none_of X G z_tuple, z_zip := PySem.W.mg_none_of X G z_zip, X_Malformed := X_Malformed, gX_Malformed := PySem.W.mg_of X G aX_Malformed, xX_Malformed := xX_Malformed, kX_Malformed := kX_Malformed, bX_Malformed := bX_Malformed, tX_Malformed := tX_Malformed, iX_Malformed := iX_Malformed, sX_Malformed := sX_Malformed, X_Refused := X_Refused, gX_Refused := PySem.W.mg_of X G aX_Refused, kX_Refused := kX_Refused, bX_Refused := bX_Refused, tX_Refused := tX_Refused, iX_Refused := iX_Refused, sX_Refused := sX_Refused, oX_Refused := ⟨⟨_, _, _, _, _, _, _, _, _, _, _, _, _, _, _, lX_Refused, rX_Refused⟩, saX_Refused, bX_Refused, tX_Refused, kX_Refused⟩, nI_Refused := A1, jI_Refused := jI_Refused, nf_Refused := nf_Refused, fX_Refused := ⟨gaX_Refused, ggX_Refused, bX_Refused, hdX_Refused⟩, cX_Refused := iX_Refused, mX_Refused := mX_Refused, hX_Refused := hX_Refused, sub_Refused_Malformed := sub_Refused_Malformed, sub_Malformed_Refused := sub_Malformed_Refused }
  exact ⟨PySem.W.fnOf "law" "law" (defArgs s_law) (defBody s_law) (defScope s_law) .none kV32 dc32 pm32 an32 cd32 ct32, fun s v => .of_eq rfl, fun base _ _ hN => ok_law (w := w) T hN hT⟩
end K44
open PySem PySem.W PyProof.Rows
set_option maxRecDepth 100000 in
set_option maxHeartbeats 16000000 in
theorem PySem.Challenge.cw_gridmetric_k44_sublattices_of_an_index_holds : PySem.Challenge.rw_gridmetric_k44_sublattices_of_an_index.Holds := by
  w_on; o_law; k_head; (case hw => w_witness2)
  k_fill
  refine Gm.walk_ofN (n := 63) (k := 49) (sp := K44.sp_law) (x := "script") rfl (by decide) rfl ⟨rfl, by decide, by decide⟩ (by decide +kernel) (fun w h Y => PySem.W.kIn_of Y) ?F ?S
  case F =>
    intro w mg fa h Y KX G hmg
    refine' K44.all_mk KX G hmg rfl ?A1 ?I1 ?L1 ?D1 ?K1 ?A2 ?L2 ?D2 ?K2 ?A3 ?L3 ?D3 ?K3 ?A4 ?L4 ?D4 ?K4 ?A5 ?L5 ?D5 ?K5 ?A6 ?L6 ?D6 ?K6 ?A7 ?L7 ?D7 ?K7 ?A8 ?L8 ?D8 ?K8 ?A9 ?L9 ?D9 ?K9 ?A10 ?L10 ?D10 ?K10 ?A11 ?L11 ?D11 ?K11 ?A12 ?I12 ?L12 ?T12 ?D12 ?K12 ?A13 ?I13 ?L13 ?D13 ?K13 ?A14 ?I14 ?L14 ?D14 ?K14 ?A15 ?L15 ?D15 ?K15 ?A16 ?L16 ?D16 ?K16 ?A17 ?L17 ?D17 ?K17 ?A18 ?L18 ?D18 ?K18 ?A19 ?L19 ?D19 ?K19 ?A20 ?L20 ?D20 ?K20 ?A21 ?L21 ?D21 ?K21 ?A22 ?L22 ?D22 ?K22 ?A23 ?L23 ?D23 ?K23 ?A24 ?L24 ?D24 ?K24 ?A25 ?L25 ?D25 ?K25 ?A26 ?L26 ?D26 ?K26 ?A27 ?L27 ?D27 ?K27 ?A28 ?L28 ?D28 ?K28 ?A29 ?L29 ?D29 ?K29 ?A30 ?L30 ?D30 ?K30 ?A31 ?L31 ?D31 ?K31 ?A32 ?L32 ?D32 ?K32 ?aC_Grid ?pg_Grid ?hd_Grid ?po_Grid ?sa_Grid ?mk_Grid ?kc_Grid ?nrows_Grid ?nwidth_Grid ?sf_Grid ?yc_Grid ?yg_Grid ?yt_Grid ?ym_Grid ?yt2_Grid ?yi_Grid ?yn_Grid ?c_MOST_INDEX ?c_MOST_SIZE ?z_ValueError ?z_abs ?z_all ?z_bool ?z_dict ?z_int ?z_isinstance ?z_len ?z_list ?z_range ?z_sorted ?z_tuple ?z_zip ?aX_Malformed ?xX_Malformed ?kX_Malformed ?bX_Malformed ?tX_Malformed ?iX_Malformed ?sX_Malformed ?aX_Refused ?kX_Refused ?bX_Refused ?tX_Refused ?iX_Refused ?sX_Refused ?lX_Refused ?rX_Refused ?saX_Refused ?jI_Refused ?nf_Refused ?gaX_Refused ?ggX_Refused ?hdX_Refused ?mX_Refused ?hX_Refused ?sub_Refused_Malformed ?sub_Malformed_Refused
    (case aC_Grid => k_is)
    (case aX_Malformed => k_is)
    (case aX_Refused => k_is)
    (case A1 => k_is)
    (case I1 => k_is)
    (case L1 => k_is)
    (case D1 => k_is)
    (case K1 => k_is)
    (case A2 => k_is)
    (case L2 => k_is)
    (case D2 => k_is)
    (case K2 => k_is)
    (case A3 => k_is)
    (case L3 => k_is)
    (case D3 => k_is)
    (case K3 => k_is)
    (case A4 => k_is)
    (case L4 => k_is)
    (case D4 => k_is)
    (case K4 => k_is)
    (case A5 => k_is)
    (case L5 => k_is)
    (case D5 => k_is)
    (case K5 => k_is)
    (case A6 => k_is)
    (case L6 => k_is)
    (case D6 => k_is)
    (case K6 => k_is)
    (case A7 => k_is)
    (case L7 => k_is)
    (case D7 => k_is)
    (case K7 => k_is)
    (case A8 => k_is)
    (case L8 => k_is)
    (case D8 => k_is)
    (case K8 => k_is)
    (case A9 => k_is)
    (case L9 => k_is)
    (case D9 => k_is)
    (case K9 => k_is)
    (case A10 => k_is)
    (case L10 => k_is)
    (case D10 => k_is)
    (case K10 => k_is)
    (case A11 => k_is)
    (case L11 => k_is)
    (case D11 => k_is)
    (case K11 => k_is)
    (case A12 => k_is)
    (case I12 => k_is)
    (case L12 => k_is)
    (case T12 => k_is)
    (case D12 => k_is)
    (case K12 => k_is)
    (case A13 => k_is)
    (case I13 => k_is)
    (case L13 => k_is)
    (case D13 => k_is)
    (case K13 => k_is)
    (case A14 => k_is)
    (case I14 => k_is)
    (case L14 => k_is)
    (case D14 => k_is)
    (case K14 => k_is)
    (case A15 => k_is)
    (case L15 => k_is)
    (case D15 => k_is)
    (case K15 => k_is)
    (case A16 => k_is)
    (case L16 => k_is)
    (case D16 => k_is)
    (case K16 => k_is)
    (case A17 => k_is)
    (case L17 => k_is)
    (case D17 => k_is)
    (case K17 => k_is)
    (case A18 => k_is)
    (case L18 => k_is)
    (case D18 => k_is)
    (case K18 => k_is)
    (case A19 => k_is)
    (case L19 => k_is)
    (case D19 => k_is)
    (case K19 => k_is)
    (case A20 => k_is)
    (case L20 => k_is)
    (case D20 => k_is)
    (case K20 => k_is)
    (case A21 => k_is)
    (case L21 => k_is)
    (case D21 => k_is)
    (case K21 => k_is)
    (case A22 => k_is)
    (case L22 => k_is)
    (case D22 => k_is)
    (case K22 => k_is)
    (case A23 => k_is)
    (case L23 => k_is)
    (case D23 => k_is)
    (case K23 => k_is)
    (case A24 => k_is)
    (case L24 => k_is)
    (case D24 => k_is)
    (case K24 => k_is)
    (case A25 => k_is)
    (case L25 => k_is)
    (case D25 => k_is)
    (case K25 => k_is)
    (case A26 => k_is)
    (case L26 => k_is)
    (case D26 => k_is)
    (case K26 => k_is)
    (case A27 => k_is)
    (case L27 => k_is)
    (case D27 => k_is)
    (case K27 => k_is)
    (case A28 => k_is)
    (case L28 => k_is)
    (case D28 => k_is)
    (case K28 => k_is)
    (case A29 => k_is)
    (case L29 => k_is)
    (case D29 => k_is)
    (case K29 => k_is)
    (case A30 => k_is)
    (case L30 => k_is)
    (case D30 => k_is)
    (case K30 => k_is)
    (case A31 => k_is)
    (case L31 => k_is)
    (case D31 => k_is)
    (case K31 => k_is)
    (case A32 => k_is)
    (case L32 => k_is)
    (case D32 => k_is)
    (case K32 => k_is)
    (case pg_Grid => k_is)
    (case hd_Grid => k_is)
    (case po_Grid => k_is)
    (case sa_Grid => k_is)
    (case mk_Grid => k_is)
    (case kc_Grid => k_is)
    (case nrows_Grid => k_is)
    (case nwidth_Grid => k_is)
    (case sf_Grid => k_is)
    (case yc_Grid => k_is)
    (case yg_Grid => k_is)
    (case yt_Grid => k_is)
    (case ym_Grid => k_is)
    (case yt2_Grid => k_is)
    (case yi_Grid => k_is)
    (case yn_Grid => k_is)
    (case c_MOST_INDEX => k_is)
    (case c_MOST_SIZE => k_is)
    (case z_ValueError => k_is)
    (case z_abs => k_is)
    (case z_all => k_is)
    (case z_bool => k_is)
    (case z_dict => k_is)
    (case z_int => k_is)
    (case z_isinstance => k_is)
    (case z_len => k_is)
    (case z_list => k_is)
    (case z_range => k_is)
    (case z_sorted => k_is)
    (case z_tuple => k_is)
    (case z_zip => k_is)
    (case xX_Malformed => k_exc)
    (case kX_Malformed => k_is)
    (case bX_Malformed => k_is)
    (case tX_Malformed => k_is)
    (case iX_Malformed => k_is)
    (case sX_Malformed => first | rfl | k_is)
    (case kX_Refused => k_is)
    (case bX_Refused => k_is)
    (case tX_Refused => k_is)
    (case iX_Refused => k_is)
    (case sX_Refused => first | rfl | k_is)
    (case lX_Refused => k_is)
    (case rX_Refused => first | rfl | decide +kernel)
    (case saX_Refused => k_is)
    (case jI_Refused => k_is)
    (case nf_Refused => k_is)
    (case gaX_Refused => k_is)
    (case ggX_Refused => k_is)
    (case hdX_Refused => k_is)
    (case mX_Refused => k_is)
    (case hX_Refused => k_is)
    (case sub_Refused_Malformed => k_is)
    (case sub_Malformed_Refused => k_is)
  case S =>
    intro K H a ns hl hb hs
    exact ⟨a, ns, rfl, hs, hl, hb, fun _ => rfl⟩
