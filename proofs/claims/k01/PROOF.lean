import PyProof.Rows.All
import Wide.All
import OpenK.AllK
import Wide.FinOn
import HandS.WordsExc
import HandS.ForMost
import HandS.Exc
import HandS.TryOnly
import HandS.ExcOwn
import HandS.IsInst
import HandS.Zip
import HandS.Walk
import HandS.Wide
import HandS.WideBits
import HandS.Conv
import HandS.Codes
import HandS.Defaults
import HandS.TupAny
import HandS.Style
import HandS.Gcd
import HandS.EndBits
import HandS.Sort
import HandS.Slots
import HandS.SlotsOwn
import KE.GoesMore
import KE.KOpsOwn
import HandS.HeadEnd
import HandS.More
import PyProof.InstNe
import HandS.TupMul
import KE.KItemsList
import KE.KDictZip
import HandS.IterVal
import KE.KOwnIter
import PySem.Challenge.RW_gridmetric_k01_matrix_arithmetic
set_option Elab.async false
set_option linter.all false
set_option maxRecDepth 100000
set_option maxHeartbeats 40000000
/-! Further rules over the layer: // by any positive divisor; a range that is a value, walked; enumerate of a tuple; operators of an own class. -/
namespace Gm
open PySem PySem.Spec PyProof.Rows L2
section
variable {X : Cx}
/-! ### // by any positive divisor -/
theorem op_fdivP {env : Env} {l : List Env} (hN : X.base.NoSeer) (hst : X.stack = env :: l) (hgen : env.scope.isGenerator = false) (hco : env.scope.isCoroutine = false) (hb : env.builtins = builtinsNs) (hg : env.globals = mainGlobals)
    (ht : X.prog.given.tree = none) (hd : X.A.depth + 100 < recursionLimit) : OpR X (binaryOp .FloorDiv) (rI (fun _ j => 0 < j) fun i j => .int (i / j)) := by
  intro pn s σ H x y v u Q I rx ry h
  obtain ⟨i, j, rfl, rfl, hCond, q⟩ := h
  obtain ⟨t, rfl⟩ := rx
  obtain ⟨t', rfl⟩ := ry
  have h1 : (0 : Int) < j := hCond
  have hs : SeerAt (model X.prog X.w) X.A s.heap := PySem.SeerAt.of (hN.keeps I.bk) ht (I.ok.frames.trans (congrArg some hst)) hgen hco hb hg
  refine floordiv_int (by omega) ?_ (.inr (PySem.PylongRoom.of I.nolimit hd hs))
  rw [Int.fdiv_eq_ediv_of_nonneg i (by omega)]
  exact ⟨.int (i / j), H, I.tok _, ⟨_, rfl⟩, q⟩
theorem op_fdivQ {env : Env} {l : List Env} (hN : X.base.NoSeer) (hst : X.stack = env :: l) (hgen : env.scope.isGenerator = false) (hco : env.scope.isCoroutine = false) (hb : env.builtins = builtinsNs) (hg : env.globals = mainGlobals)
    (ht : X.prog.given.tree = none) (hd : X.A.depth + 100 < recursionLimit) : OpR X (binaryOp .FloorDiv) (rI (fun _ j => j ≠ 0) fun i j => .int (i.fdiv j)) := by
  intro pn s σ H x y v u Q I rx ry h
  obtain ⟨i, j, rfl, rfl, hCond, q⟩ := h
  obtain ⟨t, rfl⟩ := rx
  obtain ⟨t', rfl⟩ := ry
  have hs : SeerAt (model X.prog X.w) X.A s.heap := PySem.SeerAt.of (hN.keeps I.bk) ht (I.ok.frames.trans (congrArg some hst)) hgen hco hb hg
  refine floordiv_int hCond ?_ (.inr (PySem.PylongRoom.of I.nolimit hd hs))
  exact ⟨.int (i.fdiv j), H, I.tok _, ⟨_, rfl⟩, q⟩
theorem room100 {k : Nat} {A : Around} (hr : Room k A) (hk : 40 ≤ k) : A.depth + 100 < recursionLimit := by
  have := hr.dp
  omega
/-! ### a range as a value, and walked -/
theorem cr_range1 : CallR X (.type "range") (fun vs H Q => ∃ j, vs = [V.int j] ∧ ∀ p, H p = none → Q (.ref p) (upd H p (.rng 0 j))) := by
  intro pn s σ H vs argv Q I r h
  obtain ⟨j, rfl, q⟩ := h
  cases r with
  | cons r rr =>
    cases rr
    obtain ⟨t, rfl⟩ := r
    exact call_range_1 ⟨.ref s.heap.objs.size, upd H s.heap.objs.size (.rng 0 j), I.laid (t' := s.toks + 1 + 1) (fun b o e => Heap.get?_push_of_some _ e) (Nat.le_refl _) ⟨_, _, _, Heap.get?_push_size _ rfl⟩, rfl, q _ (I.hok.fresh (Nat.le_refl _))⟩
def iRv (te : TE) : TI := fun σ H R => te σ H fun v H1 => ∃ a lo hi, v = .ref a ∧ H1 a = some (.rng lo hi) ∧ (-(2 ^ 62) ≤ lo ∧ lo < 2 ^ 62 ∧ -(2 ^ 62) ≤ hi ∧ hi < 2 ^ 62) ∧ R (Itr lo (hi - lo).toNat) H1
theorem pi_rngv {tg e : Expr} {te : TE} (he : PE X e te) : PI X tg e (iRv te) := by
  refine ⟨fun pn s σ H R I h => ?_⟩
  refine thn (he.run pn s σ H _ I h) fun v s1 ⟨x, H1, J1, rel1, post1⟩ => ?_
  obtain ⟨a, lo, hi, ex, ha, ⟨post1, q2, q3, q4⟩, q⟩ := post1
  subst ex
  cases rel1
  obtain ⟨t, u, w, hr⟩ := J1.hok a _ ha
  refine wpAny_pyIter_range (show IsRange s1.heap a lo hi 1 t u w from hr) (small_one post1 q2 q3 q4) ?_
  refine ⟨s1.heap.objs.size, [s1.heap.objs.size], _, _, H1, rfl, J1.kept (t' := s1.toks) fun b o e => Heap.get?_push_of_some _ e, turn_range _ lo (hi - lo).toNat, ?_, fun b hb => ?_, q⟩
  · have eLo : lo + ((0 : Nat) : Int) * 1 = lo := by simp
    have eHi : (((hi - lo).toNat : Nat) : Int) - ((0 : Nat) : Int) = Builtin.Range.rangeSize lo hi 1 := by rw [rangeSize_one]; split <;> omega
    show IsRangeIter _ _ (lo + ((0 : Nat) : Int) * 1) ((((hi - lo).toNat : Nat) : Int) - ((0 : Nat) : Int)) 1
    rw [eLo, eHi]
    exact Heap.get?_push_size _ rfl
  · have e : b = s1.heap.objs.size := by simpa using hb
    subst e
    exact J1.fpOk (Nat.le_refl _) (J1.hok.fresh (Nat.le_refl _))
end
end Gm
namespace Gm
open PySem PySem.Spec PyProof.Rows L2
open AutoSeq1 (wpAny_loadPart')
/-! ### enumerate of a tuple -/
theorem meets_enumerate_newT (l : Addr) (items : Array Value) (n : Nat) (dc : Option Addr) (slo : Array (Option Value)) :
    Meets (Builtin.«enumerate.__new__» ⟨[.type "enumerate", .ref l], []⟩) (fun _ R s => s.heap.get? l = some { cls := .type "tuple", dict := dc, data := .seq items n, slots := slo } ∧
      R (.ok (.ret (.ref (s.heap.push { cls := .type "tuple_iterator", data := .fields #[.ref l, .int 0 0] }).objs.size)))
        { s with heap := (s.heap.push { cls := .type "tuple_iterator", data := .fields #[.ref l, .int 0 0] }).push { cls := .type "enumerate", data := .fields #[.none, .bool false, .ref s.heap.objs.size, rawInt 0, .none, .none] } }) :=
  .of_wp fun prog w A R s h => by
    obtain ⟨heap0, g, d, tk0, os0⟩ := s; obtain ⟨hGet, h⟩ := h
    have hsub := sub_enumerate
    have hL : Heap.IsTuple (Shared.heap ⟨heap0, g, d, tk0, os0⟩) l items := ⟨_, hGet, rfl, n, rfl⟩
    wp_walk using wpAny_loadPart' hGet
    refine wpAny_stack_any fun stt => wpAny_pure ?_
    split
    · rename_i c _ _ _ _ _
      cases (c == Value.type "enumerate")
      · wp_walk using wpAny_loadPart' hGet, wpAny_pyIter_tuple hL
        exact ⟨_, rfl, h⟩
      · wp_walk using wpAny_loadPart' hGet, wpAny_pyIter_tuple hL
        exact ⟨_, rfl, h⟩
    · wp_walk using wpAny_loadPart' hGet, wpAny_pyIter_tuple hL
      exact ⟨_, rfl, h⟩
section
variable {prog : Program} {w : World} {A : Around} {E : Value → Shared → Prop} {s : Shared}
theorem call_enumerate_tuple {l : Addr} {items : Array Value} {Q : Value → Shared → Prop} (hL : s.heap.IsTuple l items)
    (h : ∀ h', IsEnum h' (s.heap.objs.size + 1) s.heap.objs.size 0 .none → h'.IsTupleIter s.heap.objs.size l 0 → h'.objs.size = s.heap.objs.size + 2 →
      (∀ b o, s.heap.get? b = some o → h'.get? b = some o) → Q (.ref (s.heap.objs.size + 1)) { s with heap := h' }) :
    wpAny (model prog w) A (call (.type "enumerate") [.ref l]) Q E s := by
  obtain ⟨⟨c, dc, dd, slo⟩, hGet, hCls, n, hDat⟩ := hL
  replace hCls : c = .type "tuple" := hCls
  replace hDat : dd = .seq items n := hDat
  subst hCls hDat
  refine callType_new F.called_enumerate (by decide) (F.typeCall_enumerate_1 _) (F.newCall_enumerate_1 _) (fun obj => F.args_object_init_2 obj _) F.entry_enumerate_new
    (meets_enumerate_newT l items n dc slo) ⟨hGet, ?_⟩
  have hLen : (s.heap.push { cls := .type "tuple_iterator", data := .fields #[.ref l, .int 0 0] }).objs.size = s.heap.objs.size + 1 := Heap.size_push ..
  show _ ∧ _
  rw [hLen]
  have hEn : IsEnum ((s.heap.push { cls := .type "tuple_iterator", data := .fields #[.ref l, .int 0 0] }).push
      { cls := .type "enumerate", data := .fields #[.none, .bool false, .ref s.heap.objs.size, rawInt 0, .none, .none] }) (s.heap.objs.size + 1) s.heap.objs.size 0 .none := by
    have := Heap.get?_push_size (s.heap.push { cls := .type "tuple_iterator", data := .fields #[.ref l, .int 0 0] })
      (o := { cls := .type "enumerate", data := .fields #[.none, .bool false, .ref s.heap.objs.size, rawInt 0, .none, .none] }) rfl
    rw [hLen] at this; exact this
  refine ⟨⟨_, hEn, rfl⟩, h _ hEn ⟨_, Heap.get?_push_of_some _ (Heap.get?_push_size _ rfl), rfl, rfl⟩ (by rw [Heap.size_push, hLen]) fun b o x => Heap.get?_push_of_some _ (Heap.get?_push_of_some _ x)⟩
end
def IteT (K : PySem.W.Frag) (a : Addr) : It :=
  ⟨fun i H => ∃ (xv : List V) (x : V), SqT K H a xv ∧ xv[i]? = some x, fun i H v H' => ∃ T0 x, v = .ref T0 ∧ H T0 = none ∧ H' = upd H T0 (.tup [.int (i : Nat), x]) ∧ ∀ xv, SqT K H a xv → xv[i]? = some x, fun i H => ∃ xv : List V, SqT K H a xv ∧ xv.length ≤ i⟩
theorem turn_enumT {P : Program} {w : World} {K : PySem.W.Frag} {elts : List Expr} {kk : Nat} {tpos : Pos} (a e it : Addr) (hAi : a ≠ it) :
    Turn P w K (.Tuple elts kk tpos) (IteT K a) [e, it] e (fun i h => (∃ ol, IsEnum h e it ((i : Nat) : Int) ol) ∧ h.IsTupleIter it a i ∧ e ≠ it) where
  mem := by simp
  obj := fun i h stt b hBm => by
    obtain ⟨⟨ol, hEn⟩, ⟨o, ho, hCls, hDat⟩, _⟩ := stt
    have ee : b = e ∨ b = it := by simpa using hBm
    rcases ee with zq | zq
    · rw [zq]; exact ⟨_, hEn, fun v q => nomatch q⟩
    · rw [zq]; exact ⟨o, ho, fun v q => by rw [hDat] at q; cases q⟩
  keep := fun i h h' stt k => let ⟨⟨ol, hEn⟩, hIx, hDif⟩ := stt; ⟨⟨ol, k e (by simp) _ hEn⟩, hIx.at fun o q => k it (by simp) o q, hDif⟩
  item := by
    intro X hP hw hK hCls i pn s σ H E I hFp stt hGo
    subst hP hw hK
    obtain ⟨⟨ol, hEn⟩, hTi, hDif⟩ := stt
    obtain ⟨xv, x, hSq, hXi⟩ := hGo
    obtain ⟨vals, hvals, p, hLen⟩ := I.tuple hSq
    obtain ⟨u, hUi, rUi⟩ := hvals.get hXi
    have lEn : e < s.heap.objs.size := Heap.lt_size hEn
    have lTi : it < s.heap.objs.size := by obtain ⟨_, q, _⟩ := hTi; exact Heap.lt_size q
    have p' : s.heap.IsTuple a vals.toArray := p
    have hae : a ≠ e := by
      intro zq
      subst zq
      obtain ⟨o1, e1, c1, _⟩ := p'
      rw [hEn] at e1
      cases e1
      exact absurd (Value.type.inj c1) (by decide)
    have hLt : i < vals.toArray.size := by
      have := (List.getElem?_eq_some_iff.mp hUi).1
      simpa using this
    refine wpAny_pyNext_enum_itemD (Draws.tuple (prog := X.prog) (w := X.w) (A := X.A.in1) (I.ok.hd hCls) it a hAi vals.toArray) hEn ⟨hTi, p'⟩ hLt hDif (by simp [hDif, Ne.symm hae]) fun x' h' tk0 hP ho st' hTy hSz hKp => ?_
    obtain ⟨hit', p2⟩ := st'
    have hx' : x' = u := by
      have : vals[i]? = some x' := by simpa using hP
      rw [hUi] at this
      exact (Option.some.inj this).symm
    subst hx'
    refine ⟨_, rfl, wpAny_letOwnedTupleGo_enum (s := { s with heap := h', toks := tk0 + 1 }) ho fun h'' he' sBig => ?_⟩
    have hTy2 : h''.get? s.heap.objs.size = some { cls := .type "tuple", data := .seq #[.int i tk0, x'] } := (sBig.2 _ (Nat.ne_of_gt lEn)).trans hTy
    have nw : ObjOk X.prog X.w (upd H s.heap.objs.size (.tup [.int (i : Nat), x])) h'' s.heap.objs.size (.tup [.int (i : Nat), x]) :=
      ⟨by show 2 ≤ sizeLine; decide, [.int i tk0, x'], .cons ⟨_, rfl⟩ (.cons rUi .nil), ⟨_, hTy2, rfl, _, rfl⟩⟩
    have J1 : Inv X pn σ (upd H s.heap.objs.size (.tup [.int (i : Nat), x])) { s with heap := h'', toks := tk0 + 1 } :=
      I.turnedNew (ch := [e, it]) (fun b ob hBm q => (sBig.2 b (fun zq => hBm (by simp [zq]))).trans (hKp b ob (fun zq => hBm (by simp [zq])) (fun zq => hBm (by simp [zq])) q)) hFp (Nat.le_refl _) nw
    refine ⟨.ref s.heap.objs.size, _, J1, rfl, ⟨_, x, rfl, I.hok.fresh (Nat.le_refl _), rfl, fun yv hy => by rw [I.tuple_inj hy hSq]; exact hXi⟩, ⟨⟨x', ?_⟩, hit'.at fun o q => (sBig.2 it (Ne.symm hDif)).trans q, hDif⟩, fun b hBm => ?_⟩
    · have e1 : ((i + 1 : Nat) : Int) = (i : Int) + 1 := by omega
      rw [e1]; exact he'
    · have hBm2 : b < s.heap.objs.size := by
        have ee : b = e ∨ b = it := by simpa using hBm
        rcases ee with zq | zq
        · rw [zq]; exact lEn
        · rw [zq]; exact lTi
      rw [upd_ne (Nat.ne_of_lt hBm2)]
      exact (hFp b hBm).1
  done := by
    intro X hP hw hK hCls i pn s σ H E I hFp stt hGo
    subst hP hw hK
    obtain ⟨⟨ol, hEn⟩, hTi, hDif⟩ := stt
    obtain ⟨xv, hSq, hXi⟩ := hGo
    obtain ⟨vals, hvals, p, hLen⟩ := I.tuple hSq
    obtain ⟨f0, f1, f2, f3, f4, f5⟩ := hFp it (by simp)
    have hGet := hvals.length
    have p' : s.heap.IsTuple a vals.toArray := p
    have hTy : s.TypeIs (.ref e) "enumerate" := ⟨_, hEn, rfl⟩
    unfold pyNext
    refine wpAny_bind (wpAny_attempt (wpAny_callSpecial?_slot (name := Str.ofString "__next__") hTy F.slot_enumerate_next
      (wpAny_call_entry F.slot_enumerate_next hTy F.entry_enumerate_next ?_ (F.args_enumerate_next_1 _))))
    show wpAny _ _ (field (.ref e) 2 >>= _) _ _ _
    refine wpAny_bind (wpAny_field hEn rfl (x := .ref it) rfl ?_)
    refine wpAny_bind (wpAny_nextOf_tuple_end (I.ok.hd hCls) hTi p' (by simp; omega) fun h' x he' hx' => ?_)
    obtain ⟨o, ho, hc'⟩ := hx'
    refine wpAny_bind (wpAny_isInstance (T := "StopIteration") (b := true) ⟨o, ho, hc'⟩ isSubtype_stop ?_)
    exact wpAny_pure ⟨rfl, I.turned (t' := s.toks) (fun b o hBm q => he' b o hBm q) f0 f1 f3 f4 f5⟩
  self := fun A i s Q E stt h => let ⟨⟨_, hEn⟩, _⟩ := stt; wpAny_pyIter_enum hEn h
def iEnumA (K : PySem.W.Frag) (ta : TA) : TI := fun σ H R => ta σ H fun wsv HA => ∃ a xv, wsv = [.ref a] ∧ ((SqL K HA a xv ∧ R (Ite K a) HA) ∨ (SqT K HA a xv ∧ R (IteT K a) HA))
theorem pi_enumA {X : Cx} {e : Expr} {ta : TA} {p pos tpos : Pos} {elts : List Expr} {kk : Nat} (hGo : Gl X "enumerate") (hm : X.mg "enumerate" = none) (ha : PA X [e] ta) (hs : starEach [e] X.env = [(false, eval e X.env)] := by rfl) :
    PI X (.Tuple elts kk tpos) (.Call (.Name "enumerate" p) [e] [] pos) (iEnumA X.K ta) := by
  refine ⟨fun pn s σ H R I h => ?_⟩
  refine Call_ (ld_blt I hGo hm boot_enumerate (PyProof.Rows.callWith_type1 (thn (ha.run pos pn s σ H _ I h) fun argv sA ⟨wsv, HA, J1, rel1, post1⟩ => ?_) hs rfl))
  obtain ⟨a, xv, ex, hSq⟩ := post1
  subst ex
  cases rel1 with
  | cons r rr =>
    cases rr
    cases r
    have hFin : ∀ b ∈ [sA.heap.objs.size + 1, sA.heap.objs.size], sA.heap.objs.size ≤ b := fun b hBm => by
      have ee : b = sA.heap.objs.size + 1 ∨ b = sA.heap.objs.size := by simpa using hBm
      rcases ee with zq | zq
      · rw [zq]; exact Nat.le_add_right _ _
      · rw [zq]; exact Nat.le_refl _
    rcases hSq with ⟨hSq, q⟩ | ⟨hSq, q⟩
    · obtain ⟨vals, hvals, p', hLen⟩ := J1.list hSq
      refine call_enumerate_list p'.isList fun h' hEn hTi hSz hKp => wpAny_pyIter_enum hEn ?_
      have J2 : Inv X pn σ HA { sA with heap := h' } := J1.kept (t' := sA.toks) hKp
      exact ⟨sA.heap.objs.size + 1, [sA.heap.objs.size + 1, sA.heap.objs.size], _, _, HA, rfl, J2, turn_enum a (sA.heap.objs.size + 1) sA.heap.objs.size, ⟨⟨.none, hEn⟩, hTi, Nat.succ_ne_self _⟩, fun b hBm => J1.fpOk (hFin b hBm) (J1.hok.fresh (hFin b hBm)), q⟩
    · obtain ⟨vals, hvals, p', hLen⟩ := J1.tuple hSq
      have hAl : a ≠ sA.heap.objs.size := by
        obtain ⟨o, e, _⟩ := (show sA.heap.IsTuple a vals.toArray from p')
        exact Nat.ne_of_lt (Heap.lt_size e)
      refine call_enumerate_tuple (show sA.heap.IsTuple a vals.toArray from p') fun h' hEn hTi hSz hKp => wpAny_pyIter_enum hEn ?_
      have J2 : Inv X pn σ HA { sA with heap := h' } := J1.kept (t' := sA.toks) hKp
      exact ⟨sA.heap.objs.size + 1, [sA.heap.objs.size + 1, sA.heap.objs.size], _, _, HA, rfl, J2, turn_enumT a (sA.heap.objs.size + 1) sA.heap.objs.size hAl, ⟨⟨.none, hEn⟩, hTi, Nat.succ_ne_self _⟩, fun b hBm => J1.fpOk (hFin b hBm) (J1.hok.fresh (hFin b hBm)), q⟩
theorem walk_enumT {K : PySem.W.Frag} {a : Addr} {xv : List V} : Walk (IteT K a) xv.length (fun H => SqT K H a xv) (YPair (fun i => some (.int (i : Nat))) (fun i => xv[i]?)) := by
  refine ⟨fun i _ hIx q => ⟨xv, xv[i], q, by simp [hIx]⟩, fun _ q => ⟨xv, q, Nat.le_refl _⟩, fun i H v H' _ q y => ?_⟩
  obtain ⟨T0, x, h1, h2, h3, h4⟩ := y
  exact ⟨T0, .int (i : Nat), x, h1, h2, h3, rfl, h4 xv q⟩
theorem walk_zipT {K : PySem.W.Frag} {a b : Addr} {xv yv : List V} {n : Nat} (hn : n = min xv.length yv.length) : Walk (RZ.ItzT K a b) n (fun H => SqT K H a xv ∧ SqT K H b yv) (YPair (fun i => xv[i]?) (fun i => yv[i]?)) := by
  subst hn
  refine ⟨fun i _ hIx q => ?_, fun _ q => ⟨xv, yv, q.1, q.2, by omega⟩, fun i H v H' _ q y => ?_⟩
  · have h1 : i < xv.length := by omega
    have h2 : i < yv.length := by omega
    exact ⟨xv, yv, xv[i], yv[i], q.1, q.2, by simp [h1], by simp [h2]⟩
  · obtain ⟨T0, x, zq, h1, h2, h3, h4, h5⟩ := y
    exact ⟨T0, x, zq, h1, h2, h3, h4 xv q.1, h5 yv q.2⟩
end Gm
namespace Gm
open PySem PySem.Spec PyProof.Rows L2
section
variable {X : Cx} {C f : Addr} {fd : FuncData} {ps : List Str} {CX : CXT} {k : Nat} {sp : Sp} {E : XK}
/-- an instance as the library's words want it -/
theorem inst_of {pn : List (Addr × Obj)} {σ : L2.St} {H : Hp} {s : Shared} {a dx : Addr} {fs : List (Str × V)} (I : Inv X pn σ H s) (ha : H a = some (.ins C dx fs)) : ∃ od, PySem.W.InstAt s.heap a (PySem.W.instObj C dx) C (some od) := by
  obtain ⟨mAt, J, _⟩ := ins_get I.hok ha
  obtain ⟨od, J, _⟩ := J.look
  exact ⟨od, J⟩
/-- a op b, both instances of one own class that defines op -/
def rOwnBin (C : Addr) (sp : Sp) (E : XK) : R2 := fun x y H Q => ∃ a b dx dy fs gs, x = .ref a ∧ y = .ref b ∧ H a = some (.ins C dx fs) ∧ H b = some (.ins C dy gs) ∧ sp [x, y] H Q E
theorem op_ownBin {op : Operator} (hc : PySem.W.selfFirst X.K C = true) (hs : PySem.W.findIn X.K (.ref C) (PySem.dunder op.info.2) = some (some (.ref f))) (hf : PySem.W.isFn X.K (.ref f) = true)
    (F : FnOk X.prog X.w X.K X.mg X.base CX k f fd ps sp) (hr : Room k X.A) (hb : Binds X.K fd ps []) (hx : Passes CX X E) : OpR X (binaryOp op) (rOwnBin C sp E) := by
  intro pn s σ H x y v u Q I rx ry h
  obtain ⟨a, b, dx, dy, fs, gs, rfl, rfl, ha, hb', q⟩ := h
  cases rx
  cases ry
  obtain ⟨od, J⟩ := inst_of I ha
  obtain ⟨od', J'⟩ := inst_of I hb'
  obtain ⟨m, hF⟩ := I.fr
  refine PySem.W.binop_K hF I.ok.mod.kin J J'.type hc hs hf ?_
  refine wpAny_mono (run_fn (us := [.ref a, .ref b]) (vs := [.ref a, .ref b]) F hr hb .nil hx I (.cons rfl (.cons rfl .nil)) q) (fun w s' z => ?_) fun _ _ x => x
  obtain ⟨zR, HR, IR, relZ, postZ⟩ := z
  exact SlX.cmpback relZ ⟨zR, HR, IR, relZ, postZ⟩
/-- a op b compared by an own def -/
def rOwnCmp (K : PySem.W.Frag) (C : Addr) (sp : Sp) (E : XK) : R2 := fun x y H Q => ∃ a b dx dy fs gs, x = .ref a ∧ y = .ref b ∧ H a = some (.ins C dx fs) ∧ H b = some (.ins C dy gs) ∧ sp [x, y] H Q E
theorem op_ownCmp {op : CmpOp} (hop : ∀ a b, compareOp op a b = richCompare op a b) (hs : PySem.W.findIn X.K (.ref C) (cmpInfo op).2.1 = some (some (.ref f))) (hf : PySem.W.isFn X.K (.ref f) = true)
    (F : FnOk X.prog X.w X.K X.mg X.base CX k f fd ps sp) (hr : Room k X.A) (hb : Binds X.K fd ps []) (hx : Passes CX X E) : OpR X (compareOp op) (rOwnCmp X.K C sp E) := by
  intro pn s σ H x y v u Q I rx ry h
  obtain ⟨a, b, dx, dy, fs, gs, rfl, rfl, ha, hb', q⟩ := h
  cases rx
  cases ry
  obtain ⟨od, J⟩ := inst_of I ha
  obtain ⟨od', J'⟩ := inst_of I hb'
  obtain ⟨m, hF⟩ := I.fr
  rw [hop]
  refine PySem.W.cmp_K (op := op) (tb := .ref C) hr.units0 hF I.ok.mod.kin J J'.type (by simp [PySem.W.notFirst]) hs hf ?_
  refine wpAny_mono (run_fn (us := [.ref a, .ref b]) (vs := [.ref a, .ref b]) F hr hb .nil hx I (.cons rfl (.cons rfl .nil)) q) (fun w s' z => ?_) fun _ _ x => x
  obtain ⟨zR, HR, IR, relZ, postZ⟩ := z
  exact SlX.cmpback relZ ⟨zR, HR, IR, relZ, postZ⟩
/-- -a of an own class -/
def rOwnUn (C : Addr) (sp : Sp) (E : XK) : V → Hp → VK → Prop := fun x H Q => ∃ a dx fs, x = .ref a ∧ H a = some (.ins C dx fs) ∧ sp [x] H Q E
theorem un_ownNeg (hs : PySem.W.findIn X.K (.ref C) "__neg__" = some (some (.ref f))) (hf : PySem.W.isFn X.K (.ref f) = true)
    (F : FnOk X.prog X.w X.K X.mg X.base CX k f fd ps sp) (hr : Room k X.A) (hb : Binds X.K fd ps []) (hx : Passes CX X E) : UnR X (unaryOp .USub) (rOwnUn C sp E) := by
  intro pn s σ H x v Q I rx h
  obtain ⟨a, dx, fs, rfl, ha, q⟩ := h
  cases rx
  obtain ⟨od, J⟩ := inst_of I ha
  obtain ⟨m, hF⟩ := I.fr
  exact PySem.W.ksp_neg hF I.ok.mod.kin J hs hf (run_fn (us := [.ref a]) (vs := [.ref a]) F hr hb .nil hx I (.cons rfl .nil) q)
/-- len(a) of an own class -/
def rOwnLen (C : Addr) (sp : Sp) (E : XK) : List V → Hp → VK → Prop := fun xs H Q => ∃ a dx fs, xs = [.ref a] ∧ H a = some (.ins C dx fs) ∧ sp [.ref a] H (fun v HR => ∃ n : Nat, v = .int n ∧ n < 2 ^ 62 ∧ Q (.int n) HR) E
theorem call_ownLen (hs : PySem.W.findIn X.K (.ref C) "__len__" = some (some (.ref f))) (hf : PySem.W.isFn X.K (.ref f) = true)
    (F : FnOk X.prog X.w X.K X.mg X.base CX k f fd ps sp) (hr : Room (k + 1) X.A) (hb : Binds X.K fd ps []) (hx : ∀ (H : Hp) (s : Shared) (e : Value) (s' : Shared), CX X.stack H s E e s' → False) : CallR X (.builtin "len") (rOwnLen C sp E) := by
  intro pn s σ H vs argv Q I r h
  obtain ⟨a, dx, fs, rfl, ha, q⟩ := h
  cases r with
  | cons r rRest =>
    cases rRest
    cases r
    obtain ⟨od, J⟩ := inst_of I ha
    obtain ⟨m, hF⟩ := I.fr
    refine PySem.W.len_K hF I.ok.mod.kin J hs hf ?_
    have hl := F.len _ _ _ _ q
    have relV : Vals [V.ref a] [Value.ref a] := .cons rfl .nil
    refine wpAny_call (codeAny_mono (F.run X.A.in1 X.stack s H ⟨[.ref a], []⟩ [.ref a] [.ref a] _ E hr.in1 I.env0.in1 (by
      have := hb s [.ref a] I.kIn (by simpa using hl)
      simpa using this) relV q) fun r s' hq => ?_)
    cases r with
    | error e => exact (hx _ _ _ _ hq).elim
    | ok fl =>
      cases fl with
      | ret w =>
        obtain ⟨z, HR, IR, relZ, n, ez, hn, ex⟩ := I.after hq
        subst ez
        obtain ⟨t, rfl⟩ := relZ
        exact ⟨⟨by omega, by omega⟩, .int n, HR, IR.tok _, ⟨_, rfl⟩, ex⟩
      | next => exact False.elim hq
      | brk => exact False.elim hq
      | cont => exact False.elim hq
end
/-! ### a method that may raise, what is raised wished for at the caller's slots -/
section
variable {X : Cx} {C f : Addr} {fd : FuncData} {ps : List Str} {CX : CXT} {k : Nat} {sp : Sp} {E : L2.St → XK} {o e : Expr} {es : List Expr} {m : Str} {ta : TE} {t : TA} {pos apos : Pos}
def tMethS (C : Addr) (m : Str) (sp : Sp) (E : L2.St → XK) (ta : TE) (t : TA) : TE := fun σ H Q => ta σ H fun x H1 => ∃ a dx fs, x = .ref a ∧ H1 a = some (.ins C dx fs) ∧ fs.lookup m = none ∧ t σ H1 fun vs H2 => sp (x :: vs) H2 Q (E σ)
theorem pe_methS {pl : Sem Bool} (he : PE X o ta) (c : Cls X.K C) (hm : Meth X.K C m f) (F : FnOk X.prog X.w X.K X.mg X.base CX k f fd ps sp) (hr : Room k X.A) (hb : Binds X.K fd ps []) (hx : ∀ σ, PassesAt CX X σ (E σ)) (ha : PA X (e :: es) t)
    (hStar : starEach (e :: es) X.env = (false, eval e X.env) :: starEach es X.env := by rfl) (hPlain : (backTo pos (starEach es X.env)).any (·.1) = false := by rfl)
    (hEval : eval (.Call (.Attribute o m apos) (e :: es) [] pos) X.env = (do
      let ov ← eval o X.env
      standAt apos.atName
      let (f, first) ← holding [ov] (getMethod ov m pl)
      callWith pos f first (backTo pos (starEach (e :: es) X.env)) (backToKw pos (keywordEach [] X.env))) := by rfl) :
    PE X (.Call (.Attribute o m apos) (e :: es) [] pos) (tMethS C m sp E ta t) := by
  refine ⟨fun pn s σ H Q I h => ?_⟩
  refine PySem.W.methodCall_KW (pl := pl) (thn (he.run pn s σ H _ I h) fun u s1 ⟨x, H1, J1, rx, a, dx, fs, ex, ea, l, q⟩ => ?_) hEval
  subst ex
  obtain rfl : u = Value.ref a := rx
  refine getmeth_ok J1 ea c hm l ?_
  refine PySem.W.callWith_K (first := [.ref a]) (h₀ := X.base) I.ok.mod.kin hm.kp (thn (ha.run pos pn s1 σ H1 _ J1 q) fun argv s2 ⟨vs, H2, J2, r, q2⟩ => ⟨J2.kIn, ?_⟩) hStar hPlain
  exact run_fnS (us := .ref a :: argv) (vs := .ref a :: vs) F hr hb (hx σ) J2 (.cons rfl r) q2
theorem pe_methS0 {pl : Sem Bool} (he : PE X o ta) (c : Cls X.K C) (hm : Meth X.K C m f) (F : FnOk X.prog X.w X.K X.mg X.base CX k f fd ps sp) (hr : Room k X.A) (hb : Binds X.K fd ps []) (hx : ∀ σ, PassesAt CX X σ (E σ))
    (hEval : eval (.Call (.Attribute o m apos) [] [] pos) X.env = (do
      let ov ← eval o X.env
      standAt apos.atName
      let (f, first) ← holding [ov] (getMethod ov m pl)
      callWith pos f first (backTo pos (starEach [] X.env)) (backToKw pos (keywordEach [] X.env))) := by rfl) :
    PE X (.Call (.Attribute o m apos) [] [] pos) (tMethS C m sp E ta tNil) := by
  refine ⟨fun pn s σ H Q I h => ?_⟩
  refine PySem.W.methodCall_KW (pl := pl) (thn (he.run pn s σ H _ I h) fun u s1 ⟨x, H1, J1, rx, a, dx, fs, ex, ea, l, q⟩ => ?_) hEval
  subst ex
  obtain rfl : u = Value.ref a := rx
  refine getmeth_ok J1 ea c hm l ?_
  exact PySem.W.callWith_K0 (first := [.ref a]) J1.kIn hm.kp (run_fnS (us := [.ref a]) (vs := [.ref a]) F hr hb (hx σ) J1 (.cons rfl .nil) q)
end
end Gm
/-! Data in the heap: rows of ints, rows of rows, grids; comprehensions over a walk, their new list told at once. -/
namespace Gm
open PySem PySem.Spec PyProof.Rows L2
abbrev Frag := PySem.W.Frag
/-! ### heaps -/
theorem same_upd {H : Hp} {p : Addr} {o : HO} (h : H p = none) : Same H (upd H p o) := fun b x e => by
  rw [upd_ne (ne_of_none e h)]
  exact e
theorem Same.seqT {K : Frag} {H H' : Hp} {a : Addr} {xs : List V} (e : Same H H') (h : SqT K H a xs) : SqT K H' a xs := by
  rcases h with (h | ⟨o, h⟩) | h
  · exact .inl (.inl (e _ _ h))
  · exact .inl (.inr ⟨o, e _ _ h⟩)
  · exact .inr h
/-- all but D is as it was -/
def Off (D : Addr) (H H' : Hp) : Prop := ∀ b o, b ≠ D → H b = some o → H' b = some o
theorem Same.off {D : Addr} {H H' : Hp} (e : Same H H') : Off D H H' := fun b o _ h => e b o h
theorem Off.upd {D : Addr} {H : Hp} {o : HO} : Off D H (upd H D o) := fun b u n e => by rw [upd_ne n]; exact e
theorem Off.trans {D : Addr} {H H1 H2 : Hp} (a : Off D H H1) (b : Off D H1 H2) : Off D H H2 := fun c o n h => b c o n (a c o n h)
theorem Off.same {D : Addr} {H H1 H2 : Hp} (hD : H D = none) (a : Same H H1) (b : Off D H1 H2) : Same H H2 := fun c o h => b c o (ne_of_none h hD) (a c o h)
/-- a tuple stands through what happens at a list -/
theorem sqT_off {K : Frag} {H H' : Hp} {a D : Addr} {acc xs : List V} (hD : H D = some (.lst acc)) (e : Off D H H') (h : SqT K H a xs) : SqT K H' a xs := by
  rcases h with (h | ⟨o, h⟩) | h
  · exact .inl (.inl (e _ _ (ne_of h hD (by intro z; cases z)) h))
  · exact .inl (.inr ⟨o, e _ _ (ne_of h hD (by intro z; cases z)) h⟩)
  · exact .inr h
/-! ### a list or tuple -/
def Seq (K : Frag) (H : Hp) (a : Addr) (xs : List V) : Prop := SqL K H a xs ∨ SqT K H a xs
theorem Seq.same {K : Frag} {H H' : Hp} {a : Addr} {xs : List V} (e : Same H H') (h : Seq K H a xs) : Seq K H' a xs := h.elim (fun h => .inl (Same.seq e h)) fun h => .inr (Same.seqT e h)
/-! ### rows of ints, rows of rows -/
/-- a tuple of ints -/
def TRow (K : Frag) (H : Hp) (v : V) (ns : List Int) : Prop := ∃ a, v = .ref a ∧ SqT K H a (ns.map V.int)
/-- a list or tuple of ints -/
def IRow (K : Frag) (H : Hp) (v : V) (ns : List Int) : Prop := ∃ a, v = .ref a ∧ Seq K H a (ns.map V.int)
/-- a tuple of tuples of ints -/
def TRows (K : Frag) (H : Hp) (v : V) (m : List (List Int)) : Prop := ∃ a vs, v = .ref a ∧ SqT K H a vs ∧ Paired (TRow K H) vs m
/-- lists or tuples of such -/
def IRows (K : Frag) (H : Hp) (v : V) (m : List (List Int)) : Prop := ∃ a vs, v = .ref a ∧ Seq K H a vs ∧ Paired (IRow K H) vs m
section
variable {K : Frag} {H H' : Hp} {v : V} {ns : List Int} {m : List (List Int)} {D : Addr} {acc : List V}
theorem TRow.same (e : Same H H') (h : TRow K H v ns) : TRow K H' v ns := let ⟨a, x, s⟩ := h; ⟨a, x, Same.seqT e s⟩
theorem TRow.off (hD : H D = some (.lst acc)) (e : Off D H H') (h : TRow K H v ns) : TRow K H' v ns := let ⟨a, x, s⟩ := h; ⟨a, x, sqT_off hD e s⟩
theorem IRow.same (e : Same H H') (h : IRow K H v ns) : IRow K H' v ns := let ⟨a, x, s⟩ := h; ⟨a, x, s.same e⟩
theorem TRow.row (h : TRow K H v ns) : IRow K H v ns := let ⟨a, x, s⟩ := h; ⟨a, x, .inr s⟩
theorem TRows.same (e : Same H H') (h : TRows K H v m) : TRows K H' v m := let ⟨a, vs, x, s, p⟩ := h; ⟨a, vs, x, Same.seqT e s, L2.Paired.mapP p fun _ _ => TRow.same e⟩
theorem TRows.off (hD : H D = some (.lst acc)) (e : Off D H H') (h : TRows K H v m) : TRows K H' v m := let ⟨a, vs, x, s, p⟩ := h; ⟨a, vs, x, sqT_off hD e s, L2.Paired.mapP p fun _ _ => TRow.off hD e⟩
theorem IRows.same (e : Same H H') (h : IRows K H v m) : IRows K H' v m := let ⟨a, vs, x, s, p⟩ := h; ⟨a, vs, x, s.same e, L2.Paired.mapP p fun _ _ => IRow.same e⟩
theorem TRows.rows (h : TRows K H v m) : IRows K H v m := let ⟨a, vs, x, s, p⟩ := h; ⟨a, vs, x, .inr s, L2.Paired.mapP p fun _ _ => TRow.row⟩
end
theorem Paired.getL {α β : Type} {F : α → β → Prop} : ∀ {l₁ : List α} {l₂ : List β} {i : Nat} {b : β}, Paired F l₁ l₂ → l₂[i]? = some b → ∃ a, l₁[i]? = some a ∧ F a b
  | _, _, _, _, .nil, e => by simp at e
  | _, _, 0, _, .cons r _, e => by simp at e; subst e; exact ⟨_, rfl, r⟩
  | _, _, i + 1, b, .cons _ t, e => by
    obtain ⟨u, h1, h2⟩ := Paired.getL (i := i) (b := b) t (by simpa using e)
    exact ⟨u, by simpa using h1, h2⟩
theorem Paired.getR {α β : Type} {F : α → β → Prop} : ∀ {l₁ : List α} {l₂ : List β} {i : Nat} {a : α}, Paired F l₁ l₂ → l₁[i]? = some a → ∃ b, l₂[i]? = some b ∧ F a b
  | _, _, _, _, .nil, e => by simp at e
  | _, _, 0, _, .cons r _, e => by simp at e; subst e; exact ⟨_, rfl, r⟩
  | _, _, i + 1, a, .cons _ t, e => by
    obtain ⟨u, h1, h2⟩ := Paired.getR (i := i) (a := a) t (by simpa using e)
    exact ⟨u, by simpa using h1, h2⟩
theorem Paired.mapR {α β γ : Type} {F : α → β → Prop} {G : α → γ → Prop} (f : β → γ) (h : ∀ a b, F a b → G a (f b)) : ∀ {l₁ : List α} {l₂ : List β}, Paired F l₁ l₂ → Paired G l₁ (l₂.map f)
  | _, _, .nil => .nil
  | _, _, .cons r t => .cons (h _ _ r) (Paired.mapR f h t)
theorem Paired.swap {α β : Type} {F : α → β → Prop} : ∀ {l₁ : List α} {l₂ : List β}, Paired F l₁ l₂ → Paired (fun b a => F a b) l₂ l₁
  | _, _, .nil => .nil
  | _, _, .cons r t => .cons r (Paired.swap t)
/-- ints alone -/
theorem paired_ints : ∀ {vs : List V} {ns : List Int}, Paired (fun v n => v = V.int n) vs ns → vs = ns.map V.int
  | _, _, .nil => rfl
  | _, _, .cons r t => by rw [List.map_cons, ← r, ← paired_ints t]
theorem paired_bls : ∀ {vs : List V} {ns : List Bool}, Paired (fun v n => v = V.bl n) vs ns → vs = ns.map V.bl
  | _, _, .nil => rfl
  | _, _, .cons r t => by rw [List.map_cons, ← r, ← paired_bls t]
theorem ints_get {ns : List Int} {i : Nat} {v : V} (h : (ns.map V.int)[i]? = some v) : ∃ n, ns[i]? = some n ∧ v = .int n := by
  rw [List.getElem?_map] at h
  cases e : ns[i]? with
  | none => rw [e] at h; cases h
  | some n => rw [e] at h; exact ⟨n, rfl, (Option.some.inj h).symm⟩
theorem ints_at {ns : List Int} {i : Nat} {n : Int} (h : ns[i]? = some n) : (ns.map V.int)[i]? = some (.int n) := by
  rw [List.getElem?_map, h]
  rfl
/-! ### walks of a list or tuple: one reading for both -/
/-- R of every walk of the n items told by Y, while a's content stands -/
def Walked (n : Nat) (Y : Nat → Hp → V → Hp → Prop) (as : List Addr) (R : It → Hp → Prop) (H1 : Hp) : Prop := ∀ (J : It) (G : Hp → Prop), Walk J n G Y → (∀ H, (∀ a ∈ as, ∀ o, H1 a = some o → H a = some o) → G H) → R J H1
theorem sqL_at {K : Frag} {H H' : Hp} {a : Addr} {xs : List V} (h : SqL K H a xs) (e : ∀ o, H a = some o → H' a = some o) : SqL K H' a xs := by
  rcases h with (h | ⟨o, h⟩) | h
  · exact .inl (.inl (e _ h))
  · exact .inl (.inr ⟨o, e _ h⟩)
  · exact .inr h
theorem sqT_at {K : Frag} {H H' : Hp} {a : Addr} {xs : List V} (h : SqT K H a xs) (e : ∀ o, H a = some o → H' a = some o) : SqT K H' a xs := by
  rcases h with (h | ⟨o, h⟩) | h
  · exact .inl (.inl (e _ h))
  · exact .inl (.inr ⟨o, e _ h⟩)
  · exact .inr h
section
variable {X : Cx} {tg e e2 : Expr} {te : TE} {ta : TA} {p pos tpos : Pos} {elts : List Expr} {kk : Nat}
def iSeq (K : Frag) (tl : TE) : TI := fun σ H R => tl σ H fun x H1 => ∃ a xs, x = .ref a ∧ Seq K H1 a xs ∧ Walked xs.length (YAt xs) [a] R H1
theorem pi_seq (hl : PE X e te) : PI X tg e (iSeq X.K te) := by
  refine ⟨fun pn s σ H R I h => ?_⟩
  refine thn (hl.run pn s σ H _ I h) fun v s1 ⟨x, H1, J1, rel1, post1⟩ => ?_
  obtain ⟨a, xs, e, hq, q⟩ := post1
  subst e
  cases rel1
  have fin : ∀ b ∈ [s1.heap.objs.size], FpOk X pn H1 b := fun b hb => by
    have e : b = s1.heap.objs.size := by simpa using hb
    subst e
    exact J1.fpOk (Nat.le_refl _) (J1.hok.fresh (Nat.le_refl _))
  rcases hq with hq | hq
  · obtain ⟨vals, hvals, p, hLen⟩ := J1.list hq
    refine wpAny_pyIter_list p.isList ?_
    exact ⟨s1.heap.objs.size, [s1.heap.objs.size], _, _, H1, rfl, J1.kept (t' := s1.toks) fun b o e => Heap.get?_push_of_some _ e, turn_list a _, ⟨_, Heap.get?_push_size _ rfl, rfl, rfl⟩, fin, q _ _ walk_list fun H e => sqL_at hq (e a (by simp))⟩
  · obtain ⟨vals, hvals, p, hLen⟩ := J1.tuple hq
    refine wpAny_pyIter_tuple (show s1.heap.IsTuple a vals.toArray from p) ?_
    exact ⟨s1.heap.objs.size, [s1.heap.objs.size], _, _, H1, rfl, J1.kept (t' := s1.toks) fun b o e => Heap.get?_push_of_some _ e, turn_tuple a _, ⟨_, Heap.get?_push_size _ rfl, rfl, rfl⟩, fin, q _ _ walk_tup fun H e => sqT_at hq (e a (by simp))⟩
def iEnumS (K : Frag) (ta : TA) : TI := fun σ H R => ta σ H fun vs H1 => ∃ a xs, vs = [.ref a] ∧ Seq K H1 a xs ∧ Walked xs.length (YPair (fun i => some (.int (i : Nat))) (fun i => xs[i]?)) [a] R H1
theorem pi_enumS (hg : Gl X "enumerate") (hm : X.mg "enumerate" = none) (ha : PA X [e] ta) (hs : starEach [e] X.env = [(false, eval e X.env)] := by rfl) :
    PI X (.Tuple elts kk tpos) (.Call (.Name "enumerate" p) [e] [] pos) (iEnumS X.K ta) := by
  refine ⟨fun pn s σ H R I h => ?_⟩
  refine Call_ (ld_blt I hg hm boot_enumerate (PyProof.Rows.callWith_type1 (thn (ha.run pos pn s σ H _ I h) fun us s1 ⟨vs, H1, J1, rel1, post1⟩ => ?_) hs rfl))
  obtain ⟨a, xs, ex, hq, q⟩ := post1
  subst ex
  cases rel1 with
  | cons r rr =>
    cases rr
    cases r
    have fin : ∀ b ∈ [s1.heap.objs.size + 1, s1.heap.objs.size], s1.heap.objs.size ≤ b := fun b hb => by
      have ee : b = s1.heap.objs.size + 1 ∨ b = s1.heap.objs.size := by simpa using hb
      rcases ee with z | z
      · rw [z]; exact Nat.le_add_right _ _
      · rw [z]; exact Nat.le_refl _
    rcases hq with hq | hq
    · obtain ⟨vals, hvals, p', hLen⟩ := J1.list hq
      refine call_enumerate_list p'.isList fun h' he hit hSz hk => wpAny_pyIter_enum he ?_
      have J2 : Inv X pn σ H1 { s1 with heap := h' } := J1.kept (t' := s1.toks) hk
      exact ⟨s1.heap.objs.size + 1, [s1.heap.objs.size + 1, s1.heap.objs.size], _, _, H1, rfl, J2, turn_enum a (s1.heap.objs.size + 1) s1.heap.objs.size, ⟨⟨.none, he⟩, hit, Nat.succ_ne_self _⟩, fun b hb => J1.fpOk (fin b hb) (J1.hok.fresh (fin b hb)), q _ _ walk_enum fun H e => sqL_at hq (e a (by simp))⟩
    · obtain ⟨vals, hvals, p', hLen⟩ := J1.tuple hq
      have hal : a ≠ s1.heap.objs.size := by
        obtain ⟨o, e, _⟩ := (show s1.heap.IsTuple a vals.toArray from p')
        exact Nat.ne_of_lt (Heap.lt_size e)
      refine call_enumerate_tuple (show s1.heap.IsTuple a vals.toArray from p') fun h' he hit hSz hk => wpAny_pyIter_enum he ?_
      have J2 : Inv X pn σ H1 { s1 with heap := h' } := J1.kept (t' := s1.toks) hk
      exact ⟨s1.heap.objs.size + 1, [s1.heap.objs.size + 1, s1.heap.objs.size], _, _, H1, rfl, J2, turn_enumT a (s1.heap.objs.size + 1) s1.heap.objs.size hal, ⟨⟨.none, he⟩, hit, Nat.succ_ne_self _⟩, fun b hb => J1.fpOk (fin b hb) (J1.hok.fresh (fin b hb)), q _ _ walk_enumT fun H e => sqT_at hq (e a (by simp))⟩
end
/-! ### comprehensions -/
/-- [e for x in .. if p]: the new list at D holds, for the turns with p, values in the relation Rel -/
theorem lc_gen {J : It} {n : Nat} {G : Hp → Prop} {Y : Nat → Hp → V → Hp → Prop} (w : Walk J n G Y) {g : TG} {tt : TT} {te : TE} {vs : List Nat} {σ : L2.St} {H1 : Hp} {D : Addr} {Qd : Hp → Prop}
    (hD : H1 D = none) (hn : n ≤ 1000) (hG : ∀ H, Same H1 H → G H) (p : Nat → Bool) (Rel : Nat → V → Hp → Prop)
    (mono : ∀ i v H H' acc, H D = some (.lst acc) → Off D H H' → Rel i v H → Rel i v H')
    (step : ∀ (i : Nat) (x : V) (H H' : Hp) (acc : List V) (Ko : VK) (Kn : Hp → Prop), i < n → Same H1 H → H D = some (.lst acc) → Y i H x H' → (p i = true → ∀ y H4, Same H H4 → Rel i y H4 → Ko y H4) → (p i = false → ∀ H3, Same H H3 → Kn H3) →
      g x (wipe σ vs) H' fun σ2 H2 => wipe σ2 vs = wipe σ vs ∧ tt σ2 H2 fun b H3 => if b = true then te σ2 H3 Ko else Kn H3)
    (done : ∀ H l, Same H1 H → H D = some (.lst l) → Paired (fun i v => Rel i v H) ((List.range n).filter p) l → Qd H) :
    ∃ W : Nat → Nat → Hp → Prop, (∃ m, W 0 m (upd H1 D (.lst []))) ∧ ∀ i m H, W i m H →
      (J.stop i H ∧ Qd H) ∨ (J.go i H ∧ ∃ Nx : Hp → Prop, (∀ H', Nx H' → ∃ m', m' < m ∧ W (i + 1) m' H') ∧ ∀ x H', J.yld i H x H' → g x (wipe σ vs) H' fun σ2 H2 => wipe σ2 vs = wipe σ vs ∧ tt σ2 H2 fun b H3 =>
        if b = true then te σ2 H3 fun y H4 => ∃ acc, H4 D = some (.lst acc) ∧ acc.length < sizeLine ∧ Nx (upd H4 D (.lst (acc ++ [y]))) else Nx H3) := by
  refine lc_it w (Pv := fun i H => Same H1 H ∧ ∃ l, H D = some (.lst l) ∧ Paired (fun i v => Rel i v H) ((List.range i).filter p) l) ?_ (fun i H _ h => hG H h.1) ?_ (fun H h => let ⟨s, l, e, q⟩ := h; done H l s e q)
  · exact ⟨same_upd hD, [], upd_same, .nil⟩
  · rintro i x H H' hi ⟨s, l, e, q⟩ y
    have hl : l.length ≤ i := by
      have := q.length
      have h2 : ((List.range i).filter p).length ≤ (List.range i).length := List.length_filter_le _ _
      rw [List.length_range] at h2
      omega
    refine step i x H H' l _ _ hi s e y (fun hp y H4 s4 r => ?_) fun hp H3 s3 => ?_
    · refine ⟨l, s4 _ _ e, small1000 (by omega), fun c o h => ?_, l ++ [y], upd_same, ?_⟩
      · exact Off.upd c o (ne_of_none h hD) (s4 _ _ (s _ _ h))
      · rw [List.range_succ, List.filter_append, List.filter_cons, List.filter_nil, if_pos hp]
        refine Paired.snoc (L2.Paired.mapP q fun j v r => mono j v H _ l e ?_ r) (mono i y H4 _ l (s4 _ _ e) Off.upd r)
        exact Off.trans (Same.off s4) Off.upd
    · refine ⟨fun c o h => s3 _ _ (s _ _ h), l, s3 _ _ e, ?_⟩
      rw [List.range_succ, List.filter_append, List.filter_cons, List.filter_nil, if_neg (by rw [hp]; exact Bool.false_ne_true), List.append_nil]
      exact L2.Paired.mapP q fun j v r => mono j v H _ l e (Same.off s3) r
/-- without a test -/
theorem lc_all {J : It} {n : Nat} {G : Hp → Prop} {Y : Nat → Hp → V → Hp → Prop} (w : Walk J n G Y) {g : TG} {te : TE} {vs : List Nat} {σ : L2.St} {H1 : Hp} {D : Addr} {Qd : Hp → Prop}
    (hD : H1 D = none) (hn : n ≤ 1000) (hG : ∀ H, Same H1 H → G H) (Rel : Nat → V → Hp → Prop)
    (mono : ∀ i v H H' acc, H D = some (.lst acc) → Off D H H' → Rel i v H → Rel i v H')
    (step : ∀ (i : Nat) (x : V) (H H' : Hp) (acc : List V) (Ko : VK), i < n → Same H1 H → H D = some (.lst acc) → Y i H x H' → (∀ y H4, Same H H4 → Rel i y H4 → Ko y H4) →
      g x (wipe σ vs) H' fun σ2 H2 => wipe σ2 vs = wipe σ vs ∧ te σ2 H2 Ko)
    (gm : ∀ x σ1 H (Q Q' : L2.St → Hp → Prop), (∀ σ2 H2, Q σ2 H2 → Q' σ2 H2) → g x σ1 H Q → g x σ1 H Q')
    (done : ∀ H l, Same H1 H → H D = some (.lst l) → Paired (fun i v => Rel i v H) (List.range n) l → Qd H) :
    ∃ W : Nat → Nat → Hp → Prop, (∃ m, W 0 m (upd H1 D (.lst []))) ∧ ∀ i m H, W i m H →
      (J.stop i H ∧ Qd H) ∨ (J.go i H ∧ ∃ Nx : Hp → Prop, (∀ H', Nx H' → ∃ m', m' < m ∧ W (i + 1) m' H') ∧ ∀ x H', J.yld i H x H' → g x (wipe σ vs) H' fun σ2 H2 => wipe σ2 vs = wipe σ vs ∧ tYes σ2 H2 fun b H3 =>
        if b = true then te σ2 H3 fun y H4 => ∃ acc, H4 D = some (.lst acc) ∧ acc.length < sizeLine ∧ Nx (upd H4 D (.lst (acc ++ [y]))) else Nx H3) := by
  refine lc_gen w hD hn hG (fun _ => true) Rel mono (fun i x H H' acc Ko Kn hi s e y k _ => ?_) fun H l s e q => done H l s e (by rw [List.filter_eq_self.mpr (fun _ _ => rfl)] at q; exact q)
  refine gm _ _ _ _ _ (fun σ2 H2 q => ⟨q.1, ?_⟩) (step i x H H' acc Ko hi s e y (k rfl))
  exact (show if true = true then te σ2 H2 Ko else Kn H2 from iteT q.2)
theorem gm_name {j : Nat} : ∀ (x : V) (σ1 : L2.St) (H : Hp) (Q Q' : L2.St → Hp → Prop), (∀ σ2 H2, Q σ2 H2 → Q' σ2 H2) → gName j x σ1 H Q → gName j x σ1 H Q' := fun _ _ _ _ _ h q => h _ _ q
theorem gm_pair {K : Frag} {i j : Nat} : ∀ (x : V) (σ1 : L2.St) (H : Hp) (Q Q' : L2.St → Hp → Prop), (∀ σ2 H2, Q σ2 H2 → Q' σ2 H2) → gTup K 2 (gCons (gName i) (gCons (gName j) gNil)) x σ1 H Q → gTup K 2 (gCons (gName i) (gCons (gName j) gNil)) x σ1 H Q' := by
  rintro x σ1 H Q Q' h ⟨a, xs, e, s, l, v, r, e1, v', r', e2, e3, q⟩
  exact ⟨a, xs, e, s, l, v, r, e1, v', r', e2, e3, h _ _ q⟩
/-- a pair unpacked into two slots -/
theorem g_pair {K : Frag} {i j : Nat} {T : Addr} {x y : V} {σ : L2.St} {H : Hp} {Q : L2.St → Hp → Prop} (hn : H T = none) (q : Q ((σ.set i (some x)).set j (some y)) (upd H T (.tup [x, y]))) : gTup K 2 (gCons (gName i) (gCons (gName j) gNil)) (.ref T) σ (upd H T (.tup [x, y])) Q :=
  ⟨T, [x, y], rfl, .inl (.inl upd_same), rfl, x, [y], rfl, y, [], rfl, rfl, q⟩
/-! ### list or tuple: slices -/
section
variable {X : Cx}
def rSlS (K : Frag) : V → Option Int → Option Int → Hp → VK → Prop := fun x lo hi H Q => rSlL K x lo hi H Q ∨ rSlT K x lo hi H Q
theorem sl_seq : SlR X (rSlS X.K) := sl_list.or sl_tup
end
end Gm
namespace Gm
open PySem PySem.Spec PyProof.Rows L2
theorem rIx_seq {K : Frag} {H : Hp} {a : Addr} {xs : List V} {i : Int} {v : V} {Q : VK} (hs : Seq K H a xs) (e : atI xs i = some v) (q : Q v H) : rIx K (.ref a) (.int i) H Q :=
  hs.elim (fun h => .inl ⟨a, xs, i, v, rfl, rfl, h, e, q⟩) fun h => .inr (.inl ⟨a, xs, i, v, rfl, rfl, h, e, q⟩)
end Gm
namespace Gm
open PySem PySem.Spec PyProof.Rows L2
/-! ### the layer's rules with the written part named (for a comprehension's block) -/
section
variable {X : Cx}
theorem ixS (K : Frag) (hK : X.K = K) : IxR X (rIx K) := by subst hK; exact ix_seq
theorem ixT (K : Frag) (hK : X.K = K) : IxR X (rIxT K) := by subst hK; exact ix_tup
theorem ixL (K : Frag) (hK : X.K = K) : IxR X (rIxL K) := by subst hK; exact ix_list
def rLen (K : Frag) : List V → Hp → VK → Prop := fun xs H Q => ∃ p ys, xs = [.ref p] ∧ Seq K H p ys ∧ Q (.int ys.length) H
theorem lenS (K : Frag) (hK : X.K = K) : CallR X (.builtin "len") (rLen K) := by subst hK; exact call_len_seq
theorem sumK (K : Frag) (hK : X.K = K) (hc : X.calm = true) : CallR X (.builtin "sum") (rSum K) := by subst hK; exact cr_sum hc
theorem allK (K : Frag) (hK : X.K = K) (hc : X.calm = true) : CallR X (.builtin "all") (rAll K) := by subst hK; exact cr_all hc
theorem isiK (K : Frag) (hK : X.K = K) : CallR X (.builtin "isinstance") (rIsi K) := by subst hK; exact call_isi
theorem isiTK (K : Frag) (hK : X.K = K) : CallR X (.builtin "isinstance") (rIsiT K) := by subst hK; exact call_isiT
def rTupleOf (K : Frag) : List V → Hp → VK → Prop := fun xs H Q => ∃ p ys, xs = [.ref p] ∧ ((SqL K H p ys ∧ ∀ l, H l = none → Q (.ref l) (upd H l (.tup ys))) ∨ (SqT K H p ys ∧ Q (.ref p) H))
theorem tupK (K : Frag) (hK : X.K = K) : CallR X (.type "tuple") (rTupleOf K) := by subst hK; exact call_tuple_of
def rListOf (K : Frag) : List V → Hp → VK → Prop := fun xs H Q => ∃ p ys, xs = [.ref p] ∧ Seq K H p ys ∧ ∀ l, H l = none → Q (.ref l) (upd H l (.lst ys))
theorem listK (K : Frag) (hK : X.K = K) : CallR X (.type "list") (rListOf K) := by subst hK; exact call_list_of
theorem catK (K : Frag) (hK : X.K = K) : OpR X (binaryOp .Add) (rCatA K) := by subst hK; exact op_catA
theorem slTK (K : Frag) (hK : X.K = K) : SlR X (rSlA K) := by subst hK; exact sl_tupA
theorem slLK (K : Frag) (hK : X.K = K) : SlR X (rSlL K) := by subst hK; exact sl_list
theorem slSK (K : Frag) (hK : X.K = K) : SlR X (rSlS K) := by subst hK; exact sl_seq
theorem eqDK (K : Frag) (hK : X.K = K) {k : Nat} (hr : Room k X.A) : OpR X (compareOp .Eq) (rEqD K) := by subst hK; exact op_eqD hr.units
theorem neDK (K : Frag) (hK : X.K = K) {k : Nat} (hr : Room k X.A) : OpR X (compareOp .NotEq) (rNeD K) := by subst hK; exact op_neD hr.units
variable {e e2 tg : Expr} {te ta : TE} {f : Str} {p pos tpos : Pos} {elts : List Expr} {kk : Nat} {tas : TA}
theorem fldK (K : Frag) (hK : X.K = K) (he : PE X e ta) (hb : attributeBase e f X.env (eval e X.env) = eval e X.env) : PE X (.Attribute e f pos) (tFld K ta f) := by subst hK; exact pe_fld he hb
theorem piS (K : Frag) (hK : X.K = K) (he : PE X e te) : PI X tg e (iSeq K te) := by subst hK; exact pi_seq he
/-- a tuple alone -/
theorem piEnum (K : Frag) (hK : X.K = K) (hg : Gl X "enumerate") (hm : X.mg "enumerate" = none) (ha : PA X [e] tas) (hs : starEach [e] X.env = [(false, eval e X.env)] := by rfl) :
    PI X (.Tuple elts kk tpos) (.Call (.Name "enumerate" p) [e] [] pos) (iEnumS K tas) := by subst hK; exact pi_enumS hg hm ha hs
def iZipT (K : Frag) (ta : TA) : TI := fun σ H R => ta σ H fun vs H1 => ∃ a b xs ys, vs = [.ref a, .ref b] ∧ SqT K H1 a xs ∧ SqT K H1 b ys ∧ R (RZ.ItzT K a b) H1
theorem piZipT (K : Frag) (hK : X.K = K) (hg : Gl X "zip") (hm : X.mg "zip" = none) (ha : PA X [e, e2] tas)
    (mono : ∀ σ H (Q Q' : List V → Hp → Prop), (∀ vs H, Q vs H → Q' vs H) → tas σ H Q → tas σ H Q')
    (hs : starEach [e, e2] X.env = (false, eval e X.env) :: starEach [e2] X.env := by rfl) (hpl : (backTo pos (starEach [e2] X.env)).any (·.1) = false := by rfl) :
    PI X (.Tuple elts kk tpos) (.Call (.Name "zip" p) [e, e2] [] pos) (iZipT K tas) := by
  subst hK
  refine ⟨fun pn s σ H R I h => (RZ.pi_zipA hg hm ha hs hpl).run pn s σ H R I (mono σ H _ _ (fun vs H1 q => ?_) h)⟩
  obtain ⟨a, b, xs, ys, e, h1, h2, q⟩ := q
  exact ⟨a, b, xs, ys, e, .inr ⟨h1, h2, q⟩⟩
end
end Gm
namespace Gm
open PySem PySem.Spec PyProof.Rows L2
theorem paired_true : ∀ {is : List Nat} {l : List V}, Paired (fun (_ : Nat) v => v = V.bl true) is l → l = (List.replicate l.length true).map V.bl
  | _, _, .nil => rfl
  | _, _, .cons r t => by
    rw [List.length_cons, List.replicate_succ, List.map_cons, ← r, ← paired_true t]
theorem all_true (n : Nat) : (List.replicate n true).all id = true := by
  induction n with
  | zero => rfl
  | succ n ih => rw [List.replicate_succ, List.all_cons, ih] <;> rfl
/-- values in relation with the items of a list, by place -/
theorem paired_at {α : Type} {F : V → α → Prop} {m : List α} : ∀ {n : Nat} {l : List V}, n = m.length → Paired (fun (i : Nat) v => ∃ x, m[i]? = some x ∧ F v x) (List.range n) l → Paired F l m := by
  intro n l hn h
  subst hn
  have key : ∀ (is : List Nat) (l : List V) (xs : List α), Paired (fun (i : Nat) v => ∃ x, m[i]? = some x ∧ F v x) is l → is.map (fun i => m[i]?) = xs.map some → Paired F l xs := by
    intro is l xs h
    induction h generalizing xs with
    | nil =>
      intro e
      cases xs with
      | nil => exact .nil
      | cons a b => cases e
    | cons r t ih =>
      intro e
      cases xs with
      | nil => cases e
      | cons a b =>
        rw [List.map_cons, List.map_cons] at e
        obtain ⟨x, ex, fx⟩ := r
        have e1 := (List.cons.inj e).1
        have e2 := (List.cons.inj e).2
        rw [ex] at e1
        cases e1
        exact .cons fx (ih b e2)
  refine key _ l m h ?_
  apply List.ext_getElem?
  intro i
  rw [List.getElem?_map, List.getElem?_map]
  by_cases hi : i < m.length
  · rw [List.getElem?_range hi, List.getElem?_eq_getElem hi]
    exact congrArg some (List.getElem?_eq_getElem hi)
  · rw [List.getElem?_eq_none (by simpa using hi), List.getElem?_eq_none (by omega)]
    rfl
end Gm
namespace Gm
open PySem PySem.Spec PyProof.Rows L2
section
variable {K : Frag} {H : Hp} {a b : Addr} {xs ys : List V} {Q : VK}
theorem cut_take (xs : List V) (j : Nat) : cutV xs none (some (j : Int)) = xs.take j := by
  unfold cutV
  rw [HT.sIx_none, HT.sIx_nat, List.drop_zero, Nat.sub_zero]
  by_cases h : j ≤ xs.length
  · rw [Nat.min_eq_left h]
  · rw [Nat.min_eq_right (by omega), List.take_length, List.take_of_length_le (by omega)]
theorem cut_drop (xs : List V) (j : Nat) : cutV xs (some (j : Int)) none = xs.drop j := by
  unfold cutV
  rw [HT.sIx_none, HT.sIx_nat]
  by_cases h : j ≤ xs.length
  · rw [Nat.min_eq_left h, List.take_of_length_le (by rw [List.length_drop]; exact Nat.le_refl _)]
  · rw [Nat.min_eq_right (by omega), Nat.sub_self, List.take_zero, List.drop_of_length_le (by omega)]
theorem slA_take (h : SqT K H a xs) (j : Nat) (q : ∀ p H', Same H H' → SqT K H' p (xs.take j) → Q (.ref p) H') : rSlA K (.ref a) none (some (j : Int)) H Q := by
  refine ⟨a, xs, rfl, h, fun e => ?_, fun _ p np => ?_⟩
  · have e2 : min j xs.length = xs.length := by
      have := e.2
      rw [HT.sIx_nat] at this
      exact this
    refine q a H (Same.refl _) ?_
    rw [List.take_of_length_le (by omega)]
    exact h
  · exact q p _ (same_upd np) (.inl (.inl (by rw [upd_same, cut_take])))
theorem slA_drop (h : SqT K H a xs) (j : Nat) (q : ∀ p H', Same H H' → SqT K H' p (xs.drop j) → Q (.ref p) H') : rSlA K (.ref a) (some (j : Int)) none H Q := by
  refine ⟨a, xs, rfl, h, fun e => ?_, fun _ p np => ?_⟩
  · have e2 : min j xs.length = 0 := by
      have := e.1
      rw [HT.sIx_nat] at this
      exact this
    refine q a H (Same.refl _) ?_
    by_cases hj : j = 0
    · rw [hj]
      exact h
    · have : xs = [] := List.eq_nil_of_length_eq_zero (by omega)
      rw [this] at h ⊢
      simpa using h
  · exact q p _ (same_upd np) (.inl (.inl (by rw [upd_same, cut_drop])))
theorem catA (hx : SqT K H a xs) (hy : SqT K H b ys) (hl : xs.length + ys.length ≤ 1000) (q : ∀ p H', Same H H' → SqT K H' p (xs ++ ys) → Q (.ref p) H') : rCatA K (.ref a) (.ref b) H Q := by
  refine ⟨a, b, xs, ys, rfl, rfl, hx, hy, Nat.le_of_lt (small1000 hl), fun e => ?_, fun _ e => ?_, fun _ _ p np => ?_⟩
  · subst e
    exact q b H (Same.refl _) hy
  · subst e
    refine q a H (Same.refl _) ?_
    rw [List.append_nil]
    exact hx
  · exact q p _ (same_upd np) (.inl (.inl upd_same))
end
/-- lists of ints, apart from D: a list of such lists is a matrix -/
theorem lists_rows {K : Frag} {H : Hp} {D : Addr} {l : List V} {m : List (List Int)} {n : Nat} (hn : n = m.length) (e : H D = some (.lst l)) (h : Paired (fun (i : Nat) v => ∃ p, v = V.ref p ∧ p ≠ D ∧ H p = some (.lst ((m.getD i []).map V.int))) (List.range n) l) : IRows K H (.ref D) m := by
  refine ⟨D, l, rfl, .inl (.inl (.inl e)), paired_at (m := m) hn ?_⟩
  have key : ∀ (is : List Nat) (l : List V), (∀ i ∈ is, i < m.length) → Paired (fun (i : Nat) v => ∃ p, v = V.ref p ∧ p ≠ D ∧ H p = some (.lst ((m.getD i []).map V.int))) is l → Paired (fun (i : Nat) v => ∃ x, m[i]? = some x ∧ IRow K H v x) is l := by
    intro is l hi h
    induction h with
    | nil => exact .nil
    | cons r t ih =>
      obtain ⟨p, rfl, _, e⟩ := r
      have h1 := hi _ (List.mem_cons_self ..)
      refine .cons ⟨_, List.getElem?_eq_getElem h1, p, rfl, .inl (.inl (.inl ?_))⟩ (ih fun i h => hi i (List.mem_cons_of_mem _ h))
      rw [List.getD_eq_getElem?_getD, List.getElem?_eq_getElem h1] at e
      exact e
  exact key _ _ (fun i h => by rw [List.mem_range] at h; omega) h
theorem lists_mono {D : Addr} {f : Nat → List Int} (i : Nat) (v : V) (H H' : Hp) (acc : List V) (_ : H D = some (.lst acc)) (o : Off D H H') (h : ∃ p, v = V.ref p ∧ p ≠ D ∧ H p = some (.lst ((f i).map V.int))) : ∃ p, v = V.ref p ∧ p ≠ D ∧ H' p = some (.lst ((f i).map V.int)) :=
  let ⟨p, e, n, h⟩ := h
  ⟨p, e, n, o _ _ n h⟩
/-- ints by place -/
theorem ints_list {l : List V} {ns : List Int} {n : Nat} (hn : n = ns.length) (h : Paired (fun (i : Nat) v => ∃ x, ns[i]? = some x ∧ v = V.int x) (List.range n) l) : l = ns.map V.int := paired_ints (paired_at hn h)
end Gm
namespace Gm
open PySem PySem.Spec PyProof.Rows L2
theorem tyes_of {σ : L2.St} {H : Hp} {q : Hp → Prop} {r : Hp → Prop} (h : q H) : tYes σ H fun b H3 => if b = true then q H3 else r H3 := iteT (A := q H) (B := r H) h
/-- a comprehension whose turns may change other objects: A is kept, the values are told without the heap -/
theorem lc_val {J : It} {n : Nat} {G : Hp → Prop} {Y : Nat → Hp → V → Hp → Prop} (w : Walk J n G Y) {g : TG} {te : TE} {vs : List Nat} {σ : L2.St} {H1 : Hp} {D : Addr} {Qd : Hp → Prop}
    (hn : n ≤ 1000) (A : Hp → Prop) (A0 : A (upd H1 D (.lst []))) (hG : ∀ H, A H → G H) (Au : ∀ H acc acc', A H → H D = some (.lst acc) → A (upd H D (.lst acc'))) (Rel : Nat → V → Prop)
    (step : ∀ (i : Nat) (x : V) (H H' : Hp) (acc : List V) (Ko : VK), i < n → A H → H D = some (.lst acc) → Y i H x H' → (∀ y H4, A H4 → H4 D = some (.lst acc) → Rel i y → Ko y H4) →
      g x (wipe σ vs) H' fun σ2 H2 => wipe σ2 vs = wipe σ vs ∧ te σ2 H2 Ko)
    (gm : ∀ (x : V) (σ1 : L2.St) (H : Hp) (Q Q' : L2.St → Hp → Prop), (∀ σ2 H2, Q σ2 H2 → Q' σ2 H2) → g x σ1 H Q → g x σ1 H Q')
    (done : ∀ H l, A H → H D = some (.lst l) → Paired (fun i v => Rel i v) (List.range n) l → Qd H) :
    ∃ W : Nat → Nat → Hp → Prop, (∃ m, W 0 m (upd H1 D (.lst []))) ∧ ∀ i m H, W i m H →
      (J.stop i H ∧ Qd H) ∨ (J.go i H ∧ ∃ Nx : Hp → Prop, (∀ H', Nx H' → ∃ m', m' < m ∧ W (i + 1) m' H') ∧ ∀ x H', J.yld i H x H' → g x (wipe σ vs) H' fun σ2 H2 => wipe σ2 vs = wipe σ vs ∧ tYes σ2 H2 fun b H3 =>
        if b = true then te σ2 H3 fun y H4 => ∃ acc, H4 D = some (.lst acc) ∧ acc.length < sizeLine ∧ Nx (upd H4 D (.lst (acc ++ [y]))) else Nx H3) := by
  refine lc_it w (Pv := fun i H => A H ∧ ∃ l, H D = some (.lst l) ∧ Paired (fun i v => Rel i v) (List.range i) l) ?_ (fun i H _ h => hG H h.1) ?_ (fun H h => let ⟨s, l, e, q⟩ := h; done H l s e q)
  · exact ⟨A0, [], upd_same, .nil⟩
  · rintro i x H H' hi ⟨a, l, e, q⟩ y
    have hl : l.length = i := by
      have := q.length
      rw [List.length_range] at this
      omega
    refine gm _ _ _ _ _ (fun σ2 H2 q => ⟨q.1, tyes_of q.2⟩) (step i x H H' l _ hi a e y fun y H4 a4 e4 r => ?_)
    refine ⟨l, e4, small1000 (by omega), Au _ _ _ a4 e4, l ++ [y], upd_same, ?_⟩
    rw [List.range_succ]
    exact Paired.snoc q r
theorem ixN_nat {n k : Nat} (h : k < n) : ixN n (k : Int) = some k := by
  unfold ixN
  first
    | simp [h]
    | (split <;> simp_all <;> omega)
    | omega
end Gm
namespace Gm
open PySem PySem.Spec PyProof.Rows L2
theorem vals_small {is : List Nat} {l : List V} {M : Nat} (h : Paired (fun (_ : Nat) v => ∃ z : Int, v = V.int z ∧ z.natAbs ≤ M) is l) : ∃ zs : List Int, l = zs.map V.int ∧ zs.length = is.length ∧ ∀ z ∈ zs, z.natAbs ≤ M := by
  induction h with
  | nil => exact ⟨[], rfl, rfl, fun z hLen => by cases hLen⟩
  | cons r t ih =>
    obtain ⟨z, rfl, hLen⟩ := r
    obtain ⟨zs, rfl, hl, hb⟩ := ih
    exact ⟨z :: zs, rfl, by rw [List.length_cons, List.length_cons, hl], fun y hy => by
      rcases List.mem_cons.mp hy with rfl | hy
      · exact hLen
      · exact hb y hy⟩
theorem paired_set {α β : Type} {F : α → β → Prop} {x : α} {y : β} (r : F x y) : ∀ {xs : List α} {ys : List β} (i : Nat), Paired F xs ys → Paired F (xs.set i x) (ys.set i y)
  | _, _, _, .nil => .nil
  | _, _, 0, .cons _ t => .cons r t
  | _, _, i + 1, .cons q t => .cons q (paired_set r i t)
end Gm
namespace Gm
open PySem PySem.Spec PyProof.Rows L2
theorem piT {X : Cx} {e tg : Expr} {te : TE} (K : Frag) (hK : X.K = K) (he : PE X e te) : PI X tg e (iTup K te) := by subst hK; exact pi_tup he
theorem piL {X : Cx} {e tg : Expr} {te : TE} (K : Frag) (hK : X.K = K) (he : PE X e te) : PI X tg e (iList K te) := by subst hK; exact pi_list he
end Gm
namespace Gm
open PySem PySem.Spec PyProof.Rows L2
theorem slS_drop1 {K : Frag} {H : Hp} {a : Addr} {ws : List V} {Q : VK} (hs : Seq K H a ws) (h0 : 0 < ws.length) (q : ∀ p H', Same H H' → Seq K H' p (ws.drop 1) → Q (.ref p) H') : rSlS K (.ref a) (some 1) none H Q := by
  rcases hs with hs | hs
  · exact .inl ⟨a, ws, rfl, hs, fun p np => q p _ (same_upd np) (.inl (.inl (.inl (by rw [upd_same, show (1 : Int) = ((1 : Nat) : Int) from rfl, cut_drop]))))⟩
  · refine .inr ⟨a, ws, rfl, hs, fun e => ?_, fun p np => q p _ (same_upd np) (.inr (.inl (.inl (by rw [upd_same, show (1 : Int) = ((1 : Nat) : Int) from rfl, cut_drop]))))⟩
    have := e.1
    rw [show (1 : Int) = ((1 : Nat) : Int) from rfl, HT.sIx_nat] at this
    omega
end Gm
/-! The end of a law whose promise wants that nobody looks on (// of any size), with the script's bits. -/
namespace Gm
open PySem PySem.Spec PyProof.Rows L2
section
variable {P : Program} {w : World} {K : PySem.W.Frag} {h : Heap} {a : Addr} {o : Obj} {xs : List V}
/-- the heap in the proof's words: the script alone, if the module doesn't own it -/
def scr (K : PySem.W.Frag) (a : Addr) (o : Obj) (xs : List V) : Hp := fun b => if b = a ∧ K.lookup a = none then some (.frz o (.lst xs)) else none
theorem scr_some {b : Addr} {u : HO} (e : scr K a o xs b = some u) : b = a ∧ K.lookup a = none ∧ u = .frz o (.lst xs) := by
  unfold scr at e
  split at e
  · rename_i hh
    exact ⟨hh.1, hh.2, (Option.some.inj e).symm⟩
  · cases e
theorem scr_only : Only (scr K a o xs) := fun b => by
  cases e : scr K a o xs b with
  | none => exact .inl rfl
  | some u => exact .inr ⟨o, xs, by rw [(scr_some e).2.2]⟩
theorem scr_none {b : Addr} (n : b ≠ a) : scr K a o xs b = none := if_neg fun q => n q.1
variable (ha : h.get? a = some o)
include ha
theorem scr_other {b : Addr} {o' : Obj} (e : h.get? b = some o') (n : o'.cls ≠ o.cls ∨ ∃ es ep, o'.data = .dict es ep ∧ ∀ es ep, o.data ≠ .dict es ep) : scr K a o xs b = none := by
  refine scr_none fun z => ?_
  rw [z, ha] at e
  cases e
  rcases n with n | ⟨es, ep, e1, n⟩
  · exact n rfl
  · exact n es ep e1
theorem scr_ns (hd : ∀ es ep, o.data ≠ .dict es ep) {b : Addr} {m : Str → Option Value} (q : h.Ns b m) : (hidT h (scr K a o xs)).Ns b m := by
  obtain ⟨o', es, ep, e, d, r⟩ := q
  exact ⟨o', es, ep, hidT_get e (scr_other ha e (.inr ⟨es, ep, d, hd⟩)), d, r⟩
theorem scr_in (X : K.In h) : K.In (hidT h (scr K a o xs)) := fun b o' e => hidT_get (X b o' e) (by
  cases q : scr K a o xs b with
  | none => rfl
  | some u =>
    obtain ⟨rfl, n, _⟩ := scr_some q
    rw [n] at e
    cases e)
theorem scr_seer (hd : ∀ es ep, o.data ≠ .dict es ep) (hc : o.cls ≠ .type "module") (x : h.NoSeer) : (hidT h (scr K a o xs)).NoSeer where
  statics := let ⟨mc, q, r⟩ := x.statics; ⟨mc, scr_ns ha hd q, r⟩
  mods := let ⟨mc, q, r⟩ := x.mods; ⟨mc, scr_ns ha hd q, r⟩
  imp := let ⟨mc, q, r⟩ := x.imp; ⟨mc, scr_ns ha hd q, r⟩
  main := let ⟨mg, bm, ob, q, r, e, c, d⟩ := x.main; ⟨mg, bm, ob, scr_ns ha hd q, r, hidT_get e (scr_other ha e (.inl fun z => hc (z.symm.trans c))), c, d⟩
end
theorem law_callN {P : Program} {w : World} {K : PySem.W.Frag} {mg mb : Str → Option Value} {k : Nat} {fa a : Addr} {fd : FuncData} {x : Str} {sp : Sp} {s₁ : Shared} {vs : List Value} {ns : List Int}
    (X : K.In s₁.heap) (hns : s₁.heap.Ns mainGlobals mg) (hb : s₁.heap.Ns builtinsNs mb) (hbb : ∀ x : Str, x ≠ "__name__" → mb x = bootBuiltins x) (hlim : s₁.heap.NoLimit) (hseer : s₁.heap.NoSeer) (hg : s₁.gens = #[])
    (ha : s₁.heap.get? a = some { cls := .type "list", data := .seq vs.toArray }) (hi : IntsAre vs ns) (hl : ns.length ≤ sizeLine) (hr : Room k callerA)
    (F : ∀ base : Heap, K.In base → base.Ns mainGlobals mg → base.NoSeer → FnOk P w K mg base CX0 k fa fd [x] sp) (hbind : ∀ (s : Shared) (u : Value), BindsTo s fd ⟨[u], []⟩ [(x, u)])
    (hsp : ∀ H : Hp, Only H → SqL K H a (ns.map V.int) → sp [.ref a] H (fun v _ => v = .bl true) fun _ _ _ => False) :
    codeAny (model P w) callerA (.call (.ref fa) ⟨[.ref a], []⟩) (fun r s' => r = .ok (.ret (.bool true)) ∧ OldK s₁.heap s'.heap ∧ s'.os = s₁.os ∧ AllBare s'.gens) s₁ := by
  have hd : ∀ es ep, ({ cls := .type "list", data := .seq vs.toArray } : Obj).data ≠ .dict es ep := fun es ep z => by cases z
  have rv := vals_ints hi
  generalize hHdef : scr K a { cls := .type "list", data := .seq vs.toArray } (ns.map V.int) = H
  have hO : Only H := hHdef ▸ scr_only
  have hSq : SqL K H a (ns.map V.int) := by
    cases hk : K.lookup a with
    | none => exact .inl (.inr ⟨_, by rw [← hHdef]; exact if_pos ⟨rfl, hk⟩⟩)
    | some o =>
      have e := X a o hk
      rw [ha] at e
      cases e
      exact .inr ⟨_, vs.toArray, _, hk, rfl, rfl, rfl, by rw [List.size_toArray, hi.length]; exact hl, by simpa using rv⟩
  have hok : HOk P w H s₁.heap := fun b u z => by
    rw [← hHdef] at z
    obtain ⟨rfl, _, rfl⟩ := scr_some z
    exact ⟨ha, by rw [List.length_map]; exact hl, vs, _, rv, ha⟩
  have hIn : K.In (hidT s₁.heap H) := hHdef ▸ scr_in ha X
  have hNs : ∀ {b : Addr} {m : Str → Option Value}, s₁.heap.Ns b m → (hidT s₁.heap H).Ns b m := fun q => hHdef ▸ scr_ns ha hd q
  have hSr : (hidT s₁.heap H).NoSeer := hHdef ▸ scr_seer ha hd (fun z => absurd (Value.type.inj z) (by decide)) hseer
  have e0 : Env0 P w K mg (hidT s₁.heap H) callerA [] s₁ H :=
    ⟨rfl, ⟨hIn, hNs hns, ⟨mb, hNs hb, hbb⟩, let ⟨mc, h1, h2⟩ := hlim; ⟨mc, hNs h1, h2⟩⟩, fun b o e => of_hidT e, Nat.le_of_eq (hidT_size _ _), trivial, (fun b hb => nomatch (show b ∈ ([] : List Addr) from hb)), hok, .of_eq hg⟩
  have main := (F _ hIn (hNs hns) hSr).run callerA [] s₁ H ⟨[.ref a], []⟩ [.ref a] [.ref a] _ _ hr e0 (hbind s₁ (.ref a)) (.cons rfl .nil) (hsp H hO hSq)
  refine codeAny_mono main fun r s' q => ?_
  match r, q with
  | .error e, q => exact q.elim
  | .ok .next, q => exact False.elim q
  | .ok .brk, q => exact False.elim q
  | .ok .cont, q => exact False.elim q
  | .ok (.ret u), q =>
    obtain ⟨v, H', os, bare, un, hok', rr, qv⟩ := q
    cases (show v = .bl true from qv)
    cases (show u = Value.bool true from rr)
    refine ⟨rfl, OldK.of_keep fun b o e => ?_, os, bare⟩
    cases hb' : H b with
    | none => exact un.keep b o e hb' (fun z => nomatch (show b ∈ ([] : List Addr) from z)) (by simp)
    | some u =>
      obtain ⟨ob, l, z⟩ := (hO b).resolve_left (by rw [hb']; simp)
      have e1 := (hok b _ z).1
      rw [e] at e1
      cases e1
      exact (hok' b _ (un.frzs b _ _ z)).1
theorem walk_ofN {l : PySem.W.OpenLaw} {n k : Nat} {q : Program} {loose : List Str} {XP : (Str → Option Value) → Heap → Prop} {YP : World → Heap → Prop} {d : DefRec} {K : Params → PySem.W.Frag} {sp : PySem.W.Frag → Sp} {x : Str}
    (hn : l.most = some n) (hn2 : n ≤ sizeLine) (hdf : d.params.defaults = []) (hr : Room k callerA) (hq : importsNone q = true)
    (hY : ∀ (w : World) (h : Heap), YP w h → (K w.params).In h)
    (F : ∀ (w : World) (mg : Str → Option Value) (fa : Addr) (h : Heap), YP w h → (K w.params).In h → h.Ns mainGlobals mg → mg d.name = some (.ref fa) →
      ∃ fd : FuncData, (∀ (s : Shared) (u : Value), BindsTo s fd ⟨[u], []⟩ [(x, u)]) ∧
        ∀ base : Heap, (K w.params).In base → base.Ns mainGlobals mg → base.NoSeer → FnOk l.prog w (K w.params) mg base CX0 k fa fd [x] (sp (K w.params)))
    (hsp : ∀ (K : PySem.W.Frag) (H : Hp) (a : Addr) (ns : List Int), ns.length ≤ n → (∀ z ∈ ns, Builtin.Int.intBits z ≤ 1048576) → SqL K H a (ns.map V.int) → sp K [.ref a] H (fun v _ => v = .bl true) fun _ _ _ => False) :
    PySem.W.WalkO q loose XP YP l.row.toRowW d [] (fun f vs => PySem.call f vs) := by
  refine Att.attach_callB hn hdf fun w s₀ s₁ mg mb fa o pm cd doc a vs ns G Y ho hd hcd hmg hobj hints hlen hbits hg => ?_
  have X := hY w _ Y
  obtain ⟨fd, hb, hF⟩ := F w mg fa _ Y X G.T.g hmg
  exact law_callN X G.T.g G.T.b G.T.builtins G.T.nolimit (G.T.seer hq) hg hobj hints (Nat.le_trans hlen hn2) hr hF hb fun H _ hS => hsp _ H a ns hlen hbits hS
end Gm
/-! != of an own class that has only its own == -/
namespace Gm
open PySem PySem.Spec PyProof.Rows L2
section
variable {prog : Program} {w : World} {A : Around} {E : Value → Shared → Prop} {s : Shared} {K : PySem.W.Frag} {x y C f : Addr} {ox oy : Obj} {od od' : Option Obj}
/-- the end of the def's call, turned -/
abbrev NotBack (Q : Value → Shared → Prop) : Value → Shared → Prop := fun v s' => ∃ b, v = Value.bool b ∧ Q (.bool (!b)) s'
theorem objNe_body {Q : Fin → Shared → Prop} (X : K.In s.heap) (J : PySem.W.InstAt s.heap x ox C od) (hs : PySem.W.findIn K (.ref C) "__eq__" = some (some (.ref f))) (hf : PySem.W.isFn K (.ref f) = true) (hu : A.units < cLine)
    (h : wpAny (model prog w) A (call (.ref f) [.ref x, .ref y]) (fun v s' => ∃ b, v = Value.bool b ∧ Q (.done (.ret (.bool (!b)))) s') E s) : wpAny (model prog w) A (Builtin.«object.__ne__» ⟨[.ref x, .ref y], []⟩) Q E s := by
  unfold Builtin.«object.__ne__»
  repeat (first
    | with_reducible refine wpAny_cRoomFor hu ?_
    | (refine wpAny_bind (m := callSpecialIfBound? (.ref x) (Str.ofString "__eq__") [.ref y]) (PySem.W.ifBound_K X J hs hf (wpAny_mono h (fun v s' hv => ?_) fun _ _ e => e))
       obtain ⟨b, rfl, hq⟩ := hv
       repeat (first | exact hq | exact wpAny_pure hq | exact wpAny_truthy_bool hq | (refine wpAny_bind (m := truthy (.bool _)) (wpAny_truthy_bool ?_)) | wp_step))
    | wp_step)
theorem objNe_call {Q : Value → Shared → Prop} (X : K.In s.heap) (J : PySem.W.InstAt s.heap x ox C od) (hm : PySem.W.mroIn K C (.type "object") = some true) (hs : PySem.W.findIn K (.ref C) "__eq__" = some (some (.ref f))) (hf : PySem.W.isFn K (.ref f) = true) (hu : A.units + 1 < cLine)
    (h : wpAny (model prog w) A.in1 (call (.ref f) [.ref x, .ref y]) (NotBack Q) E s) : wpAny (model prog w) A (call (.builtin "object.__ne__") [.ref x, .ref y]) Q E s := by
  refine wpAny_call (codeAny_call_builtin F.cmp_object.ne.plain F.cmpEntry_ne (PySem.W.check_slot F.cmpKind_ne F.cmpSplit_ne (J.type.andThen (PySem.W.looks_mroIn X hm)) (F.cmpArgs_ne _ _) ?_))
  exact objNe_body X J hs hf hu h
theorem objNe_bound {args : List Value} {Q : Option Value → Shared → Prop} (X : K.In s.heap) (J : PySem.W.InstAt s.heap x ox C od) (hn : PySem.W.findIn K (.ref C) "__ne__" = some (some (.builtin "object.__ne__")))
    (h : wpAny (model prog w) A (call (.builtin "object.__ne__") (.ref x :: args)) (fun v => Q (some v)) E s) : wpAny (model prog w) A (callSpecialIfBound? (.ref x) "__ne__" args) Q E s := by
  have last : wpAny (model prog w) A (call (.builtin "object.__ne__") ([.ref x] ++ args) >>= fun v => pure (some v)) Q E s := wpAny_bind (wpAny_mono h (fun _ _ z => wpAny_pure z) fun _ _ z => z)
  have bnd := F.cmp_object.ne.bind (.ref x)
  simp only [callSpecialIfBound?, bindSpecialIfBound?]
  refine wpAny_holding (wpAny_bind (wpAny_bind (wpAny_bind (J.type.here ((PySem.W.looks_findIn X hn).here (wpAny_bind (wpAny_askSetting (wpAny_ite ?_))))))))
  split
  · exact wpAny_bind (wpAny_of_eq (F.cmp_object.ne.bind _) (wpAny_pure (by exact last)))
  · exact wpAny_tryCatch (wpAny_bind (wpAny_of_eq (F.cmp_object.ne.bind _) (wpAny_pure (by exact last))))
theorem cmpNe_K {Q : Value → Shared → Prop} (X : K.In s.heap) (J : PySem.W.InstAt s.heap x ox C od) (J' : PySem.W.InstAt s.heap y oy C od') (hm : PySem.W.mroIn K C (.type "object") = some true)
    (hn : PySem.W.findIn K (.ref C) "__ne__" = some (some (.builtin "object.__ne__"))) (hs : PySem.W.findIn K (.ref C) "__eq__" = some (some (.ref f))) (hf : PySem.W.isFn K (.ref f) = true) (hu : A.units + 1 < cLine)
    (h : wpAny (model prog w) A.in1 (call (.ref f) [.ref x, .ref y]) (NotBack Q) E s) : wpAny (model prog w) A (compareOp .NotEq (.ref x) (.ref y)) Q E s := by
  show wpAny (model prog w) A (richCompare .NotEq (.ref x) (.ref y)) Q E s
  have one : wpAny (model prog w) A (tryCompare (.ref x) "__ne__" (.ref y)) (fun r s' => ∃ v, r = some v ∧ Q v s') E s := by
    unfold tryCompare
    refine wpAny_bind (objNe_bound X J hn (objNe_call X J hm hs hf hu (wpAny_mono h (fun v s' hv => ?_) fun _ _ e => e)))
    obtain ⟨b, rfl, hq⟩ := hv
    exact ⟨b, rfl, wpAny_pure ⟨_, rfl, hq⟩⟩
  unfold richCompare
  rw [cmpInfo_NotEq]
  simp only [oneThing_ref]
  refine wpAny_holding (wpAny_bind (wpAny_cRoomFor (by omega) ?_))
  refine wpAny_bind (J.type.here (wpAny_bind (J'.type.here ?_)))
  rw [show (Value.ref C != Value.ref C) = false from by simp]
  simp only [Bool.false_eq_true, if_false]
  refine wpAny_bind (wpAny_pure ?_)
  simp only [Bool.false_eq_true, if_false]
  refine wpAny_bind (wpAny_mono one (fun r s' z => ?_) fun _ _ e => e)
  obtain ⟨v, rfl, hq⟩ := z
  exact wpAny_pure hq
end
section
variable {X : Cx} {C f : Addr} {fd : FuncData} {ps : List Str} {CX : CXT} {k : Nat} {sp : Sp}
/-- a != b, both instances of one own class that defines == (its own def answers True or False) -/
def rOwnNe (C : Addr) (sp : Sp) (E : XK) : R2 := fun x y H Q => ∃ a b dx dy fs gs, x = .ref a ∧ y = .ref b ∧ H a = some (.ins C dx fs) ∧ H b = some (.ins C dy gs) ∧ sp [x, y] H (fun v H' => ∃ t, v = .bl t ∧ Q (.bl (!t)) H') E
theorem op_ownNe {E : XK} (hm : PySem.W.mroIn X.K C (.type "object") = some true) (hn : PySem.W.findIn X.K (.ref C) "__ne__" = some (some (.builtin "object.__ne__"))) (hs : PySem.W.findIn X.K (.ref C) "__eq__" = some (some (.ref f))) (hf : PySem.W.isFn X.K (.ref f) = true)
    (F : FnOk X.prog X.w X.K X.mg X.base CX k f fd ps sp) (hr : Room (k + 1) X.A) (hb : Binds X.K fd ps []) (hx : ∀ (H : Hp) (s : Shared) (e : Value) (s' : Shared), CX X.stack H s E e s' → False) : OpR X (compareOp .NotEq) (rOwnNe C sp E) := by
  intro pn sg σ H x y v u Q I rx ry h
  obtain ⟨a, b, dx, dy, fs, gs, rfl, rfl, ha, hb', q⟩ := h
  cases rx
  cases ry
  obtain ⟨od, J⟩ := inst_of I ha
  obtain ⟨od', J'⟩ := inst_of I hb'
  refine cmpNe_K I.kIn J J' hm hn hs hf (by have := hr.units; omega) ?_
  have hl := F.len _ _ _ _ q
  have rv : Vals [V.ref a, V.ref b] [Value.ref a, Value.ref b] := .cons rfl (.cons rfl .nil)
  refine wpAny_call (codeAny_mono (F.run X.A.in1 X.stack sg H ⟨[.ref a, .ref b], []⟩ [.ref a, .ref b] [.ref a, .ref b] _ E hr.in1 I.env0.in1 (by
    have := hb sg [.ref a, .ref b] I.kIn (by simpa using hl)
    simpa using this) rv q) fun r s' hq => ?_)
  cases r with
  | error e => exact (hx _ _ _ _ hq).elim
  | ok fl =>
    cases fl with
    | ret w =>
      obtain ⟨z, H', I', rz, t, ez, ex⟩ := I.after hq
      subst ez
      cases (show w = Value.bool t from rz)
      exact ⟨t, rfl, .bl (!t), H', I', rfl, ex⟩
    | next => exact False.elim hq
    | brk => exact False.elim hq
    | cont => exact False.elim hq
end
end Gm
/-! A tuple times 0, 1 or more. -/
namespace Gm
open PySem PySem.Spec PyProof.Rows L2
theorem mul_one_tup (l : Addr) (items : Array Value) (n : Nat) (dd : Option Addr) (sl : Array (Option Value)) (u : Tok) :
    Meets (Builtin.«tuple.__mul__» ⟨[.ref l, .int 1 u], []⟩) (fun _ R s => s.heap.get? l = some { cls := .type "tuple", dict := dd, data := .seq items n, slots := sl } ∧ R (.ok (.ret (Value.ref l))) s) :=
  .of_wp fun prog w A R s h => by
    obtain ⟨h0, g, d, tk, os⟩ := s
    obtain ⟨hGet, h⟩ := h
    have f1 := AutoSeq1.idx_int
    have c0 : (decide ((1 : Int) < -(2 ^ 63)) || decide ((1 : Int) ≥ 2 ^ 63)) = false := by decide
    have c1 : (items.isEmpty || (1 : Int) == 1) = true := by simp
    wp_walk using AutoSeq1.wpAny_loadPart' hGet
    repeat (first
      | (refine wpAny_ite_false (decide_eq_false (by rw [c0]; exact Bool.false_ne_true)) ?_; wp_walk using AutoSeq1.wpAny_loadPart' hGet)
      | (refine wpAny_ite_true (decide_eq_true (by rw [c1])) ?_; wp_walk using AutoSeq1.wpAny_loadPart' hGet))
    exact ⟨_, rfl, h⟩
theorem mul_zero_tup (l : Addr) (items : Array Value) (n : Nat) (dd : Option Addr) (sl : Array (Option Value)) (u : Tok) (hi : items.isEmpty = false) :
    Meets (Builtin.«tuple.__mul__» ⟨[.ref l, .int 0 u], []⟩) (fun _ R s => s.heap.get? l = some { cls := .type "tuple", dict := dd, data := .seq items n, slots := sl } ∧
      R (.ok (.ret (Value.ref s.heap.objs.size))) { s with heap := s.heap.push { cls := Value.type "tuple", data := Data.seq #[] }, toks := s.toks }) :=
  .of_wp fun prog w A R s h => by
    obtain ⟨h0, g, d, tk, os⟩ := s
    obtain ⟨hGet, h⟩ := h
    have f1 := AutoSeq1.idx_int
    have c0 : (decide ((0 : Int) < -(2 ^ 63)) || decide ((0 : Int) ≥ 2 ^ 63)) = false := by decide
    have c1 : (items.isEmpty || (0 : Int) == 1) = false := by rw [hi]; decide
    have c2 : (decide ((0 : Int) ≤ 0) || items.isEmpty) = true := by simp
    wp_walk using AutoSeq1.wpAny_loadPart' hGet
    repeat (first
      | (refine wpAny_ite_false (decide_eq_false (by rw [c0]; exact Bool.false_ne_true)) ?_; wp_walk using AutoSeq1.wpAny_loadPart' hGet)
      | (refine wpAny_ite_false (decide_eq_false (by rw [c1]; exact Bool.false_ne_true)) ?_; wp_walk using AutoSeq1.wpAny_loadPart' hGet)
      | (refine wpAny_ite_true (decide_eq_true (by rw [c2])) ?_; wp_walk using AutoSeq1.wpAny_loadPart' hGet))
    exact ⟨_, rfl, h⟩
/-- xs * k for a tuple that is not empty, k from 0 on -/
def rRepA (K : Frag) : R2 := fun x y H Q => ∃ l k xs, x = .ref l ∧ y = .int k ∧ SqT K H l xs ∧ xs ≠ [] ∧ 0 ≤ k ∧ k ≤ 1000 ∧ xs.length ≤ 1000 ∧ (k = 1 → Q (.ref l) H) ∧ (k ≠ 1 → ∀ p, H p = none → Q (.ref p) (upd H p (.tup (List.replicate k.toNat xs).flatten)))
section
variable {X : Cx}
theorem op_repA : OpR X (binaryOp .Mult) (rRepA X.K) := by
  intro pn sh σ H x y v u Q I rx ry h
  obtain ⟨l, k, xs, rfl, rfl, hT, hne, h1, h2, hz, q1, q2⟩ := h
  by_cases k2 : 2 ≤ k
  · exact op_repT pn sh σ H _ _ _ _ Q I rx ry ⟨l, k, xs, rfl, rfl, hT, hne, k2, h2, hz, q2 (by omega)⟩
  cases rx
  obtain ⟨t, rfl⟩ := ry
  obtain ⟨vals, r, ⟨⟨cls, dd, data, sl⟩, ho, hc, n, hd⟩, hs⟩ := I.tuple hT
  simp only at hc hd
  subst hc hd
  have hi : vals.toArray.isEmpty = false := by
    cases vals with
    | nil => exact absurd (List.eq_nil_of_length_eq_zero r.length) hne
    | cons a b => rfl
  by_cases k1 : k = 1
  · subst k1
    refine wpAny_binaryOp_repeat_ref (T := "tuple") (U := "int") (by decide) ⟨_, ho, rfl⟩ (fun s' => typeIs_int s' 1 t) noFill_tuple_mul F.fills_int_mul F.slot_int_rmul repeat_tuple F.slot_int_index.lookup
      (call_meets F.slot_int_rmul (typeIs_int sh 1 t) F.entry_int_rmul (F.args_int_rmul_2 _ _) (int_rmul_tuple 1 t l vals.toArray n dd sl)
        ⟨ho, rfl, ⟨_, ho, rfl⟩, call_meets F.slot_tuple_mul ⟨_, ho, rfl⟩ F.entry_tuple_mul (F.args_tuple_mul_2 _ _) (mul_one_tup l vals.toArray n dd sl t) ⟨ho, ?_⟩⟩)
    exact ⟨.ref l, H, I, rfl, q1 rfl⟩
  · obtain rfl : k = 0 := by omega
    refine wpAny_binaryOp_repeat_ref (T := "tuple") (U := "int") (by decide) ⟨_, ho, rfl⟩ (fun s' => typeIs_int s' 0 t) noFill_tuple_mul F.fills_int_mul F.slot_int_rmul repeat_tuple F.slot_int_index.lookup
      (call_meets F.slot_int_rmul (typeIs_int sh 0 t) F.entry_int_rmul (F.args_int_rmul_2 _ _) (int_rmul_tuple 0 t l vals.toArray n dd sl)
        ⟨ho, rfl, ⟨_, ho, rfl⟩, call_meets F.slot_tuple_mul ⟨_, ho, rfl⟩ F.entry_tuple_mul (F.args_tuple_mul_2 _ _) (mul_zero_tup l vals.toArray n dd sl t hi) ⟨ho, ?_⟩⟩)
    have q := q2 (by decide) sh.heap.objs.size (I.hok.fresh (Nat.le_refl _))
    refine ⟨.ref sh.heap.objs.size, _, I.laid (t' := sh.toks) (o := .tup []) (fun b ob q => Heap.get?_push_of_some _ q) (Nat.le_refl _) ⟨Nat.zero_le _, [], .nil, IsTup.new _ _⟩, rfl, q⟩
theorem repAK (K : Frag) (hK : X.K = K) : OpR X (binaryOp .Mult) (rRepA K) := by subst hK; exact op_repA
end
end Gm
/-! Making an object, and an own operator, that may raise: what is raised is wished for at the caller's slots. -/
namespace Gm
open PySem PySem.Spec PyProof.Rows L2
section
variable {X : Cx} {C f : Addr} {fd : FuncData} {ps : List Str} {CX : CXT} {k : Nat} {sp : Sp} {E : L2.St → XK} {x : Str} {p pos : Pos} {e : Expr} {es : List Expr} {t : TA} {dvs : List V} {ds : List Value}
def tMakeS (C : Addr) (sp : Sp) (dvs : List V) (E : L2.St → XK) (t : TA) : TE := fun σ H Q => t σ H fun vs H1 => ∀ x dx, H1 x = none → H1 dx = none → dx ≠ x → sp (.ref x :: (vs ++ dvs)) (upd (upd H1 dx (.own x)) x (.ins C dx [])) (fun v H2 => v = .non ∧ Q (.ref x) H2) (E σ)
theorem pe_makeS (M : Mk X.K C f) (F : FnOk X.prog X.w X.K X.mg X.base CX k f fd ps sp) (hr : Room (k + 1) X.A) (hg : Gl X x) (hm : X.mg x = some (.ref C)) (hb : Binds X.K fd ps ds) (hd : Vals dvs ds) (hx : ∀ σ, PassesAt CX X σ (E σ))
    (ha : PA X (e :: es) t) (hdb : (x == ("__debug__" : Str)) = false := by decide) (he : starEach (e :: es) X.env = (false, eval e X.env) :: starEach es X.env := by rfl) (hpl : (backTo pos (starEach es X.env)).any (·.1) = false := by rfl) :
    PE X (.Call (.Name x p) (e :: es) [] pos) (tMakeS C sp dvs E t) := by
  refine ⟨fun pn sh σ H Q I h => ?_⟩
  refine wpAny_Call_Name_kw (ld_glob I hg hm ?_ hdb)
  refine PySem.W.callWith_K (h₀ := X.base) I.ok.mod.kin M.kp (thn (ha.run pos pn sh σ H _ I h) fun argv sA ⟨vs, H1, J, rel, q⟩ => ⟨J.kIn, ?_⟩) he hpl
  have q0 := q (sA.heap.objs.size + 1) sA.heap.objs.size (J.hok.fresh (Nat.le_succ _)) (J.hok.fresh (Nat.le_refl _)) (Nat.ne_of_lt (Nat.lt_succ_self _))
  have J2 := Inv.made (C := C) J
  have rel2 : Vals (V.ref (sA.heap.objs.size + 1) :: (vs ++ dvs)) (Value.ref (sA.heap.objs.size + 1) :: (argv ++ ds)) := .cons rfl (rel.append hd)
  have hl : (Value.ref (sA.heap.objs.size + 1) :: argv ++ ds).length = ps.length := by
    have el := rel2.length
    rw [F.len _ _ _ _ q0] at el
    exact el.symm
  have main := F.run _ X.stack _ _ ⟨Value.ref (sA.heap.objs.size + 1) :: argv, []⟩ (Value.ref (sA.heap.objs.size + 1) :: (argv ++ ds)) _ _ (E σ) (hr.make C argv []) (J2.env0.make C argv []) (hb _ (Value.ref (sA.heap.objs.size + 1) :: argv) J2.kIn hl) rel2 q0
  refine wpAny_call (make_map (f := f) J.kIn M.makes M.init (beq_iff_eq.mp M.fn) (codeAny_mono main fun r s' z => ?_))
  match r, z with
  | .error er, z => exact hx σ pn _ _ er s' J2 z
  | .ok (.ret u), z =>
    obtain ⟨v, H', J3, rv, ev, q3⟩ := J2.after z
    subst ev
    exact ⟨rv, ⟨V.ref (sA.heap.objs.size + 1), H', J3, rfl, q3⟩⟩
  | .ok .next, z => exact False.elim z
  | .ok .brk, z => exact False.elim z
  | .ok .cont, z => exact False.elim z
end
section
variable {X : Cx} {C f : Addr} {fd : FuncData} {ps : List Str} {CX : CXT} {k : Nat} {sp : Sp} {E : L2.St → XK} {a b : Expr} {ta tb : TE} {pos : Pos}
/-- a op b of one own class, where the def may raise -/
def tOpS (C : Addr) (sp : Sp) (E : L2.St → XK) (ta tb : TE) : TE := fun σ H Q => ta σ H fun x H1 => tb σ H1 fun y H2 => ∃ c d dx dy fs gs, x = .ref c ∧ y = .ref d ∧ H2 c = some (.ins C dx fs) ∧ H2 d = some (.ins C dy gs) ∧ sp [x, y] H2 Q (E σ)
theorem pe_opS {op : Operator} (hc : PySem.W.selfFirst X.K C = true) (hs : PySem.W.findIn X.K (.ref C) (PySem.dunder op.info.2) = some (some (.ref f))) (hf : PySem.W.isFn X.K (.ref f) = true)
    (F : FnOk X.prog X.w X.K X.mg X.base CX k f fd ps sp) (hr : Room k X.A) (hb : Binds X.K fd ps []) (hx : ∀ σ, PassesAt CX X σ (E σ)) (ha : PE X a ta) (hb' : PE X b tb) : PE X (.BinOp a op b pos) (tOpS C sp E ta tb) := by
  refine ⟨fun pn sh σ H Q I h => ?_⟩
  refine wpAny_BinOp (binT ha hb' I h fun v u s2 x y H2 I2 rx ry q => ?_)
  obtain ⟨c, d, dx, dy, fs, gs, rfl, rfl, hc1, hd1, q⟩ := q
  cases rx
  cases ry
  obtain ⟨od, J⟩ := inst_of I2 hc1
  obtain ⟨od', J'⟩ := inst_of I2 hd1
  obtain ⟨m, hF⟩ := I2.fr
  refine PySem.W.binop_K hF I2.ok.mod.kin J J'.type hc hs hf ?_
  refine wpAny_mono (run_fnS (us := [.ref c, .ref d]) (vs := [.ref c, .ref d]) F hr hb (hx σ) I2 (.cons rfl (.cons rfl .nil)) q) (fun w s' z => ?_) fun _ _ z => z
  obtain ⟨zR, HR, IR, relZ, postZ⟩ := z
  exact SlX.cmpback relZ ⟨zR, HR, IR, relZ, postZ⟩
end
end Gm
/-! list(zip(xs, ys)) of two tuples. -/
namespace Gm
open PySem PySem.Spec PyProof.Rows L2 RZ
abbrev ZipF (h : Heap) (z TI TO T0 : Addr) (f : Bool) : Prop :=
  h.get? z = some { cls := .type "zip", dict := none, data := .fields #[rawInt T0, .bool f, .bool false, .ref TI, .ref TO], slots := #[] }
section
variable {prog : Program} {w : World} {A : Around} {E : Value → Shared → Prop} {s : Shared}
theorem zip_busy {z TI TO T0 : Addr} {f : Bool} {oT : Obj} {Q : Bool → Shared → Prop} (hz : ZipF s.heap z TI TO T0 f) (hT : s.heap.get? T0 = some oT)
    (q : ∀ h', ZipF h' z TI TO T0 true → Heap.SameBut z s.heap h' → Q false { s with heap := h' }) : wpAny (model prog w) A (Builtin.SmallTypes.ownedTupleIsFree (.ref z)) Q E s := by
  unfold Builtin.SmallTypes.ownedTupleIsFree
  refine wpAny_bind (wpAny_field hz rfl (x := rawInt T0) rfl ?_)
  show wpAny _ _ (loadIfAlive ((T0 : Int)).toNat >>= _) _ _ _
  rw [Int.toNat_natCast]
  refine wpAny_bind (PySem.W.kdx_alive hT ?_)
  simp only [Option.isNone_some, Bool.false_eq_true, if_false]
  refine wpAny_bind (wpAny_field hz rfl (x := .bool f) rfl ?_)
  cases f with
  | false =>
    rw [if_pos (by decide)]
    refine wpAny_bind (wpAny_setField_rec hz (by simp) fun h1 hz1 hs1 => wpAny_pure (q h1 hz1 hs1))
  | true =>
    rw [if_neg (by decide)]
    exact wpAny_pure (q s.heap hz ⟨rfl, fun _ _ => rfl⟩)
theorem zipT_busy_item {z TI TO T0 i1 i2 l1 l2 : Addr} {f : Bool} {oT : Obj} {k1 k2 : Nat} {xs ys : Array Value} {x y : Value} {Q : Value → Shared → Prop} (D : ZipApart z TI TO i1 i2 l1 l2)
    (hz : ZipF s.heap z TI TO T0 f) (hT : s.heap.get? T0 = some oT) (hTI : IsPair s.heap TI (.ref i1) (.ref i2))
    (h1 : s.heap.IsTupleIter i1 l1 k1) (h2 : s.heap.IsTupleIter i2 l2 k2) (hl1 : s.heap.IsTuple l1 xs) (hl2 : s.heap.IsTuple l2 ys) (hx : xs[k1]? = some x) (hy : ys[k2]? = some y)
    (hQ : ∀ h', ZipF h' z TI TO T0 true → h'.IsTupleIter i1 l1 (k1 + 1) → h'.IsTupleIter i2 l2 (k2 + 1) → IsPair h' s.heap.objs.size x y → h'.objs.size = s.heap.objs.size + 1 →
      (∀ c o, c ≠ z → c ≠ i1 → c ≠ i2 → s.heap.get? c = some o → h'.get? c = some o) → Q (.ref s.heap.objs.size) { s with heap := h' }) :
    wpAny (model prog w) A (Builtin.«zip.__next__» ⟨[.ref z], []⟩) (fun fin s' => ∃ v, fin = .done (.ret v) ∧ Q v s') E s := by
  show wpAny _ _ (field (.ref z) 2 >>= _) _ _ _
  refine wpAny_bind (wpAny_field hz rfl (x := .bool false) rfl ?_)
  show wpAny _ _ (field (.ref z) 3 >>= _) _ _ _
  refine wpAny_bind (wpAny_field hz rfl (x := .ref TI) rfl ?_)
  refine wpAny_bind (wpAny_seqItems hTI rfl ?_)
  show wpAny _ _ (Builtin.SmallTypes.ownedTupleIsFree (.ref z) >>= _) _ _ _
  refine wpAny_bind (zip_busy hz hT fun g1 hz1 hs1 => ?_)
  simp only [Bool.false_eq_true, if_false]
  refine wpAny_bind ?_
  rw [← Array.forIn_toList]
  simp only [List.forIn_cons, List.forIn_nil]
  refine wpAny_bind (wpAny_bind (wpAny_holding ?_))
  show wpAny _ _ (Builtin.SmallTypes.nextOf (.ref i1) >>= _) _ _ _
  refine wpAny_bind (nextOf_tuple_item (h1.extBut hs1.extBut D.i1z) (hl1.extBut hs1.extBut D.l1z) hx fun g2 h12 hs2 => wpAny_pure ?_)
  refine wpAny_pure ?_
  dsimp only
  refine wpAny_bind (wpAny_bind (wpAny_holding ?_))
  show wpAny _ _ (Builtin.SmallTypes.nextOf (.ref i2) >>= _) _ _ _
  refine wpAny_bind (nextOf_tuple_item ((h2.extBut hs1.extBut D.i2z).extBut hs2.extBut D.i12.symm) ((hl2.extBut hs1.extBut D.l2z).extBut hs2.extBut D.l2i1) hy fun g3 h23 hs3 => wpAny_pure ?_)
  refine wpAny_pure ?_
  dsimp only
  refine wpAny_pure ?_
  dsimp only
  refine wpAny_bind (wpAny_newTuple ?_ (by show 2 ≤ sizeLine; decide))
  have hsz : g3.objs.size = s.heap.objs.size := by rw [hs3.1, hs2.1, hs1.1]
  have hz3 : ZipF g3 z TI TO T0 true := hs3.extBut _ _ D.i2z.symm (hs2.extBut _ _ D.i1z.symm hz1)
  have hk3 : ∀ c o, c ≠ z → c ≠ i1 → c ≠ i2 → s.heap.get? c = some o → g3.get? c = some o := fun c o c1 c2 c3 e => hs3.extBut _ _ c3 (hs2.extBut _ _ c2 (hs1.extBut _ _ c1 e))
  have h13 : g3.IsTupleIter i1 l1 (k1 + 1) := h12.extBut hs3.extBut D.i12
  refine wpAny_pure ⟨_, rfl, ?_⟩
  show Q (.ref g3.objs.size) _
  have hT3 : IsPair (g3.push { cls := .type "tuple", data := .seq #[x, y] }) g3.objs.size x y := Heap.get?_push_size _ rfl
  have up : ∀ c o, g3.get? c = some o → (g3.push { cls := .type "tuple", data := .seq #[x, y] }).get? c = some o := fun c o e => Heap.get?_push_of_some _ e
  rw [hsz] at hT3 ⊢
  exact hQ _ (up _ _ hz3) (h13.at fun o e => up _ o e) (h23.at fun o e => up _ o e) hT3 (by rw [Heap.size_push, hsz]) fun c o c1 c2 c3 e => up c o (hk3 c o c1 c2 c3 e)
theorem zipT_busy_end {z TI TO T0 i1 i2 l1 l2 : Addr} {f : Bool} {oT : Obj} {k1 : Nat} {xs : Array Value} {Q : Fin → Shared → Prop} (hh : A.handled = none) (D : ZipApart z TI TO i1 i2 l1 l2)
    (hz : ZipF s.heap z TI TO T0 f) (hT : s.heap.get? T0 = some oT) (hTI : IsPair s.heap TI (.ref i1) (.ref i2))
    (h1 : s.heap.IsTupleIter i1 l1 k1) (hl1 : s.heap.IsTuple l1 xs) (hend : xs[k1]? = none)
    (hE : ∀ h' e, (∀ c o, c ≠ z → c ≠ i1 → s.heap.get? c = some o → h'.get? c = some o) → (∃ o, h'.get? e = some o ∧ o.cls = .type "StopIteration") → E (.ref e) { s with heap := h' }) :
    wpAny (model prog w) A (Builtin.«zip.__next__» ⟨[.ref z], []⟩) Q E s := by
  show wpAny _ _ (field (.ref z) 2 >>= _) _ _ _
  refine wpAny_bind (wpAny_field hz rfl (x := .bool false) rfl ?_)
  show wpAny _ _ (field (.ref z) 3 >>= _) _ _ _
  refine wpAny_bind (wpAny_field hz rfl (x := .ref TI) rfl ?_)
  refine wpAny_bind (wpAny_seqItems hTI rfl ?_)
  show wpAny _ _ (Builtin.SmallTypes.ownedTupleIsFree (.ref z) >>= _) _ _ _
  refine wpAny_bind (zip_busy hz hT fun g1 hz1 hs1 => ?_)
  simp only [Bool.false_eq_true, if_false]
  refine wpAny_bind ?_
  rw [← Array.forIn_toList]
  simp only [List.forIn_cons, List.forIn_nil]
  refine wpAny_bind (wpAny_bind (wpAny_holding ?_))
  show wpAny _ _ (Builtin.SmallTypes.nextOf (.ref i1) >>= _) _ _ _
  refine wpAny_bind (nextOf_tuple_end hh (h1.extBut hs1.extBut D.i1z) (hl1.extBut hs1.extBut D.l1z) hend ?_)
  intro h' e ext he
  exact hE h' e (fun c o c1 c2 x => ext c o c2 (hs1.extBut c o c1 x)) he
/-- the zip's cells before its turn i -/
def ZS (h : Heap) (z TI TO i1 i2 l1 l2 : Addr) (i : Nat) : Prop :=
  IsPair h TI (.ref i1) (.ref i2) ∧ h.IsTupleIter i1 l1 i ∧ h.IsTupleIter i2 l2 i ∧ ((IsZip h z TI TO .none ∧ ∃ a b, IsPair h TO a b) ∨ ∃ T0 f oT, ZipF h z TI TO T0 f ∧ h.get? T0 = some oT)
theorem ZS.ty {z TI TO i1 i2 l1 l2 : Addr} {i : Nat} {h : Heap} (st : ZS h z TI TO i1 i2 l1 l2 i) : ∃ o, h.get? z = some o ∧ o.cls = .type "zip" := by
  obtain ⟨_, _, _, ⟨hz, _⟩ | ⟨_, _, _, hz, _⟩⟩ := st
  · exact ⟨_, hz, rfl⟩
  · exact ⟨_, hz, rfl⟩
theorem zip_item {z TI TO i1 i2 l1 l2 : Addr} {i : Nat} {xs ys : Array Value} {x y : Value} {Q : Option Value → Shared → Prop} (D : ZipApart z TI TO i1 i2 l1 l2) (st : ZS s.heap z TI TO i1 i2 l1 l2 i)
    (hl1 : s.heap.IsTuple l1 xs) (hl2 : s.heap.IsTuple l2 ys) (hx : xs[i]? = some x) (hy : ys[i]? = some y)
    (hQ : ∀ h', ZS h' z TI TO i1 i2 l1 l2 (i + 1) → IsPair h' s.heap.objs.size x y → h'.objs.size = s.heap.objs.size + 1 →
      (∀ c o, c ≠ z → c ≠ TO → c ≠ i1 → c ≠ i2 → s.heap.get? c = some o → h'.get? c = some o) → Q (some (.ref s.heap.objs.size)) { s with heap := h' }) :
    wpAny (model prog w) A (pyNext (.ref z)) Q E s := by
  have hTy : s.TypeIs (.ref z) "zip" := st.ty
  obtain ⟨hTI, h1, h2, ⟨hz, a, b, hTO⟩ | ⟨T0, f, oT, hz, hT0⟩⟩ := st
  · refine pyNext_zipT_item D hz hTI hTO h1 h2 hl1 hl2 hx hy fun h' z' TO' h1' h2' hT hsz hk => ?_
    exact hQ h' ⟨hk _ _ D.TIz D.TITO D.TIi1 D.TIi2 hTI, h1', h2', .inr ⟨s.heap.objs.size, false, _, z', hT⟩⟩ hT hsz hk
  · unfold pyNext
    refine wpAny_bind (wpAny_attempt (wpAny_callSpecial?_slot (name := Str.ofString "__next__") hTy F.slot_zip_next (wpAny_call_entry F.slot_zip_next hTy F.entry_zip_next
      (zipT_busy_item D hz hT0 hTI h1 h2 hl1 hl2 hx hy fun h' z' h1' h2' hT hsz hk => wpAny_pure ?_) (F.args_zip_next_1 _))))
    have h0 : T0 ≠ z ∨ T0 = z := (Decidable.em (T0 = z)).symm
    have alive : ∃ o', h'.get? T0 = some o' := by
      by_cases e1 : T0 = z
      · exact ⟨_, by rw [e1]; exact z'⟩
      · by_cases e2 : T0 = i1
        · obtain ⟨o, ho, _⟩ := h1'
          exact ⟨o, by rw [e2]; exact ho⟩
        · by_cases e3 : T0 = i2
          · obtain ⟨o, ho, _⟩ := h2'
            exact ⟨o, by rw [e3]; exact ho⟩
          · exact ⟨_, hk _ _ e1 e2 e3 hT0⟩
    obtain ⟨o', ho'⟩ := alive
    exact hQ h' ⟨hk _ _ D.TIz D.TIi1 D.TIi2 hTI, h1', h2', .inr ⟨T0, true, o', z', ho'⟩⟩ hT hsz fun c o c1 _ c3 c4 e => hk c o c1 c3 c4 e
theorem zip_done {z TI TO i1 i2 l1 l2 : Addr} {i : Nat} {xs ys : Array Value} {Q : Option Value → Shared → Prop} (hh : A.handled = none) (D : ZipApart z TI TO i1 i2 l1 l2) (st : ZS s.heap z TI TO i1 i2 l1 l2 i)
    (hl1 : s.heap.IsTuple l1 xs) (hl2 : s.heap.IsTuple l2 ys) (hend : xs[i]? = none)
    (hQ : ∀ h', (∀ c o, c ≠ z → c ≠ TO → c ≠ i1 → c ≠ i2 → s.heap.get? c = some o → h'.get? c = some o) → Q none { s with heap := h' }) :
    wpAny (model prog w) A (pyNext (.ref z)) Q E s := by
  have hTy : s.TypeIs (.ref z) "zip" := st.ty
  obtain ⟨hTI, h1, h2, ⟨hz, a, b, hTO⟩ | ⟨T0, f, oT, hz, hT0⟩⟩ := st
  · exact pyNext_zipT_end hh D hz hTI hTO h1 h2 hl1 hl2 (.inl hend) hQ
  · unfold pyNext
    refine wpAny_bind (wpAny_attempt (wpAny_callSpecial?_slot (name := Str.ofString "__next__") hTy F.slot_zip_next (wpAny_call_entry F.slot_zip_next hTy F.entry_zip_next
      (zipT_busy_end hh D hz hT0 hTI h1 hl1 hend fun h' e hk he => ?_) (F.args_zip_next_1 _))))
    obtain ⟨o, ho, hc⟩ := he
    refine wpAny_bind (wpAny_isInstance (T := "StopIteration") (b := true) ⟨o, ho, hc⟩ isSubtype_stop ?_)
    exact wpAny_pure (hQ _ fun c o c1 _ c3 _ e => hk c o c1 c3 e)
/-- the pairs that were made, each apart -/
structure Pairs (xs ys : Array Value) (lo : Addr) (h : Heap) (as : List Addr) : Prop where
  rise : as.Pairwise (· < ·)
  above : ∀ a ∈ as, lo ≤ a
  pairs : ∀ (j : Nat) (a : Addr), as[j]? = some a → ∃ x y, xs[j]? = some x ∧ ys[j]? = some y ∧ IsPair h a x y
theorem ZS.keep {z TI TO i1 i2 l1 l2 : Addr} {i : Nat} {h h' : Heap} {S : Addr} (st : ZS h z TI TO i1 i2 l1 l2 i) (hS : S ≠ z ∧ S ≠ TI ∧ S ≠ TO ∧ S ≠ i1 ∧ S ≠ i2) (hk : ∀ b o, b ≠ S → h.get? b = some o → h'.get? b = some o) (hSl : ∃ o, h'.get? S = some o) : ZS h' z TI TO i1 i2 l1 l2 i := by
  obtain ⟨n1, n2, n3, n4, n5⟩ := hS
  obtain ⟨hTI, h1, h2, q⟩ := st
  refine ⟨hk _ _ n2.symm hTI, h1.at fun o e => hk _ o n4.symm e, h2.at fun o e => hk _ o n5.symm e, ?_⟩
  rcases q with ⟨hz, a, b, hTO⟩ | ⟨T0, f, oT, hz, hT0⟩
  · exact .inl ⟨hk _ _ n1.symm hz, a, b, hk _ _ n3.symm hTO⟩
  · refine .inr ⟨T0, f, ?_⟩
    by_cases e : T0 = S
    · obtain ⟨o, ho⟩ := hSl
      exact ⟨o, hk _ _ n1.symm hz, by rw [e]; exact ho⟩
    · exact ⟨oT, hk _ _ n1.symm hz, hk _ _ e hT0⟩
theorem zip_loop {z TI TO i1 i2 l1 l2 S : Addr} {xs ys : Array Value} {R : Result → Shared → Prop} {lo : Addr} {h0 : Heap} (hh : A.handled = none) (D : ZipApart z TI TO i1 i2 l1 l2) (hS : S ≠ z ∧ S ≠ TI ∧ S ≠ TO ∧ S ≠ i1 ∧ S ≠ i2) (hSl : S ≠ l1 ∧ S ≠ l2) (hxy : xs.size = ys.size) (hn : xs.size ≤ sizeLine) (res : Value)
    (hlo : S < lo) (hfz : z < lo ∧ TO < lo ∧ i1 < lo ∧ i2 < lo)
    (hR : ∀ h' acc c as, (∀ b o, b ≠ S → b ≠ z → b ≠ TO → b ≠ i1 → b ≠ i2 → h0.get? b = some o → h'.get? b = some o) → h'.get? S = some { cls := .type "list", dict := none, data := .seq acc c, slots := #[] } → as.length = xs.size → Pairs xs ys lo h' as → acc.toList = as.map Value.ref → R (.ok (.ret res)) { s with heap := h' }) :
    ∀ (k i : Nat) (h : Heap) (c : Nat) (acc : Array Value) (as : List Addr), xs.size - i = k → i ≤ xs.size → ZS h z TI TO i1 i2 l1 l2 i → h.IsTuple l1 xs → h.IsTuple l2 ys → lo ≤ h.objs.size →
      (∀ b o, b ≠ S → b ≠ z → b ≠ TO → b ≠ i1 → b ≠ i2 → h0.get? b = some o → h.get? b = some o) → h.get? S = some { cls := .type "list", dict := none, data := .seq acc c, slots := #[] } → acc.toList = as.map Value.ref → as.length = i → Pairs xs ys lo h as →
      codeAny (model prog w) A (.builtin "list.extend.loop" ⟨[.ref S, .ref z, res], []⟩) R { s with heap := h } := by
  obtain ⟨n1, n2, n3, n4, n5⟩ := id hS
  intro k
  induction k with
  | zero =>
    intro i h c acc as hk hi st hl1 hl2 hls hkeep hSg hacc hal hG
    refine codeAny_builtin F.entry_extend_loop ?_
    rw [Around.under_plainId F.plain_extend_loop _]
    show wpAny _ A.in1 (pyNext (.ref z) >>= _) _ _ _
    refine wpAny_bind (zip_done (s := { s with heap := h }) (A := A.in1) hh D st hl1 hl2 (by simp; omega) fun h' he => ?_)
    have off : ∀ a ∈ as, a ≠ z ∧ a ≠ TO ∧ a ≠ i1 ∧ a ≠ i2 := fun a ha => by
      have d := hG.above a ha
      exact ⟨Nat.ne_of_gt (Nat.lt_of_lt_of_le hfz.1 d), Nat.ne_of_gt (Nat.lt_of_lt_of_le hfz.2.1 d), Nat.ne_of_gt (Nat.lt_of_lt_of_le hfz.2.2.1 d), Nat.ne_of_gt (Nat.lt_of_lt_of_le hfz.2.2.2 d)⟩
    refine wpAny_pure (hR h' acc c as (fun b o b1 b2 b3 b4 b5 e => he b o b2 b3 b4 b5 (hkeep b o b1 b2 b3 b4 b5 e)) (he S _ n1 n3 n4 n5 hSg) (by omega) ⟨hG.rise, hG.above, fun j a hj => ?_⟩ hacc)
    obtain ⟨x, y, e1, e2, e3⟩ := hG.pairs j a hj
    obtain ⟨q1, q2, q3, q4⟩ := off a (List.mem_of_getElem? hj)
    exact ⟨x, y, e1, e2, he a _ q1 q2 q3 q4 e3⟩
  | succ k ih =>
    intro i h c acc as hk hi st hl1 hl2 hls hkeep hSg hacc hal hG
    have hlt : i < xs.size := by omega
    have hsz : acc.size = i := by rw [← Array.length_toList, hacc, List.length_map, hal]
    refine codeAny_builtin F.entry_extend_loop ?_
    rw [Around.under_plainId F.plain_extend_loop _]
    show wpAny _ A.in1 (pyNext (.ref z) >>= _) _ _ _
    refine wpAny_bind (zip_item (s := { s with heap := h }) (A := A.in1) D st hl1 hl2 (Array.getElem?_eq_getElem hlt) (Array.getElem?_eq_getElem (by omega : i < ys.size)) fun h' st' hT hz1 hkp => ?_)
    dsimp only at hT hz1 hkp ⊢
    have hS' := hkp S _ n1 n3 n4 n5 hSg
    have up : ∀ b o, b ≠ S → h'.get? b = some o → (h'.update S (Obj.mapSeq (·.push (Value.ref h.objs.size)))).get? b = some o := fun b o hb e => (Heap.get?_update_other _ _ (Ne.symm hb)).trans e
    have hSlt : S < h.objs.size := Heap.lt_size hSg
    have hself := Heap.get?_update_self (Obj.mapSeq (·.push (Value.ref h.objs.size))) hS' rfl
    show wpAny _ A.in1 (updateSeq S (·.push (Value.ref h.objs.size)) >>= _) _ _ _
    refine wpAny_bind ?_
    have hTn : h.objs.size ≠ S := Nat.ne_of_gt hSlt
    have ls1 : l1 ≠ z ∧ l1 ≠ TO ∧ l1 ≠ i1 ∧ l1 ≠ i2 := ⟨D.l1z, D.l1TO, D.l1i1, D.l1i2⟩
    have ls2 : l2 ≠ z ∧ l2 ≠ TO ∧ l2 ≠ i1 ∧ l2 ≠ i2 := ⟨D.l2z, D.l2TO, D.l2i1, D.l2i2⟩
    have both : ∀ b o, b ≠ S → b ≠ z → b ≠ TO → b ≠ i1 → b ≠ i2 → h.get? b = some o → (h'.update S (Obj.mapSeq (·.push (Value.ref h.objs.size)))).get? b = some o := fun b o b1 b2 b3 b4 b5 e => up b o b1 (hkp b o b2 b3 b4 b5 e)
    have tup : ∀ {l : Addr} {us : Array Value}, l ≠ S → l ≠ z ∧ l ≠ TO ∧ l ≠ i1 ∧ l ≠ i2 → h.IsTuple l us → (h'.update S (Obj.mapSeq (·.push (Value.ref h.objs.size)))).IsTuple l us := fun n q ⟨o, ho, r⟩ => ⟨o, both _ o n q.1 q.2.1 q.2.2.1 q.2.2.2 ho, r⟩
    refine wpAny_updateSeq hS' rfl (wpAny_pure ⟨plainId_quiet F.plain_extend_loop _, ih (i + 1) _ _ (acc.push (Value.ref h.objs.size)) (as ++ [h.objs.size]) (by omega) hlt (st'.keep hS up ⟨_, hself⟩) (tup hSl.1.symm ls1 hl1) (tup hSl.2.symm ls2 hl2) ?_
      (fun b o b1 b2 b3 b4 b5 e => both b o b1 b2 b3 b4 b5 (hkeep b o b1 b2 b3 b4 b5 e)) hself (by rw [Array.toList_push, hacc, List.map_append]; rfl) (by rw [List.length_append, hal]; rfl) ⟨?_, ?_, ?_⟩⟩) (by rw [hsz]; omega) (by show (acc.push (Value.ref h.objs.size)).size ≤ sizeLine + 1; rw [Array.size_push, hsz]; omega)
    · refine Nat.le_trans hls ?_
      have e : (h'.update S (Obj.mapSeq (·.push (Value.ref h.objs.size)))).get? h.objs.size = _ := up _ _ hTn hT
      exact Nat.le_of_lt (Heap.lt_size e)
    · refine List.pairwise_append.mpr ⟨hG.rise, List.pairwise_singleton _ _, fun a ha b hb => ?_⟩
      rw [List.mem_singleton.mp hb]
      obtain ⟨j, hj⟩ := List.getElem?_of_mem ha
      obtain ⟨_, _, _, _, e3⟩ := hG.pairs j a hj
      exact Heap.lt_size e3
    · intro a ha
      rcases List.mem_append.mp ha with ha | ha
      · exact hG.above a ha
      · rw [List.mem_singleton.mp ha]
        exact hls
    · intro j b hj
      rcases Nat.lt_trichotomy j as.length with g1 | g1 | g1
      · rw [List.getElem?_append_left g1] at hj
        obtain ⟨x, y, e1, e2, e3⟩ := hG.pairs j b hj
        have d := hG.above b (List.mem_of_getElem? hj)
        exact ⟨x, y, e1, e2, both b _ (Nat.ne_of_gt (Nat.lt_of_lt_of_le hlo d)) (Nat.ne_of_gt (Nat.lt_of_lt_of_le hfz.1 d)) (Nat.ne_of_gt (Nat.lt_of_lt_of_le hfz.2.1 d)) (Nat.ne_of_gt (Nat.lt_of_lt_of_le hfz.2.2.1 d)) (Nat.ne_of_gt (Nat.lt_of_lt_of_le hfz.2.2.2 d)) e3⟩
      · subst g1
        have hb : h.objs.size = b := by simpa using hj
        subst hb
        exact ⟨xs[as.length]'(by omega), ys[as.length]'(by omega), Array.getElem?_eq_getElem _, Array.getElem?_eq_getElem _, by have := up _ _ hTn hT; subst hal; exact this⟩
      · have hnone : (as ++ [h.objs.size])[j]? = none := List.getElem?_eq_none (by rw [List.length_append, List.length_singleton]; omega)
        rw [hnone] at hj
        cases hj
theorem zip_len_none : typeLookup (.type "zip") "__len__" = pure none := am_miss_of_fast (by decide +kernel)
theorem zip_hint_none : typeLookup (.type "zip") "__length_hint__" = pure none := am_miss_of_fast (by decide +kernel)
theorem zip_extend {z TI TO i1 i2 l1 l2 S : Addr} {xs ys : Array Value} {R : Result → Shared → Prop} {lo : Addr} (hh : A.handled = none) (D : ZipApart z TI TO i1 i2 l1 l2) (hS : S ≠ z ∧ S ≠ TI ∧ S ≠ TO ∧ S ≠ i1 ∧ S ≠ i2) (hSl : S ≠ l1 ∧ S ≠ l2) (hxy : xs.size = ys.size) (hn : xs.size ≤ sizeLine) (res : Value)
    (hlo : S < lo) (hfz : z < lo ∧ TO < lo ∧ i1 < lo ∧ i2 < lo) (hle : lo ≤ s.heap.objs.size) (hz : IsZip s.heap z TI TO .none) (st : ZS s.heap z TI TO i1 i2 l1 l2 0) (hl1 : s.heap.IsTuple l1 xs) (hl2 : s.heap.IsTuple l2 ys) (c0 : Nat) (hS0 : s.heap.get? S = some { cls := .type "list", data := .seq #[] c0 })
    (hR : ∀ h' acc c as, (∀ b o, b ≠ S → b ≠ z → b ≠ TO → b ≠ i1 → b ≠ i2 → s.heap.get? b = some o → h'.get? b = some o) → h'.get? S = some { cls := .type "list", dict := none, data := .seq acc c, slots := #[] } → as.length = xs.size → Pairs xs ys lo h' as → acc.toList = as.map Value.ref → R (.ok (.ret res)) { s with heap := h' }) :
    wpAny (model prog w) A.in1 (Builtin.List.listExtendWith (.ref S) (.ref z) res)
      (fun fin s' => match fin with | .done f => R (.ok f) s' | .again c' => c'.quiet = true ∧ codeAny (model prog w) A c' R s') (fun e s' => R (.error e) s') s := by
  have hTy : s.TypeIs (.ref z) "zip" := st.ty
  unfold Builtin.List.listExtendWith
  refine wpAny_bind (wpAny_typeOf (T := "zip") hTy ?_)
  have g1 : Builtin.List.listSameRef (.ref S) (.ref z) = false := by simp [Builtin.List.listSameRef, hS.1]
  have g2 : (Value.type "zip" == Value.type "list") = false := by decide
  have g3 : (Value.type "zip" == Value.type "tuple") = false := by decide
  simp only [g1, g2, g3, Bool.or_false, Bool.false_eq_true, if_false]
  refine wpAny_bind (wpAny_pyIter_zip hz ?_)
  refine wpAny_bind (wpAny_holding ?_)
  unfold Builtin.List.listLengthHint
  refine wpAny_bind (wpAny_specialOf hTy zip_len_none ?_)
  show wpAny _ _ (specialOf (Value.ref z) (Str.ofString "__length_hint__") >>= _) _ _ _
  refine wpAny_bind (wpAny_specialOf hTy zip_hint_none ?_)
  refine wpAny_pure ?_
  show wpAny _ _ (rule "list.extend.makes-room" >>= fun _ => Builtin.List.listTouch (.ref S) >>= fun _ => again (.builtin "list.extend.loop" ⟨[.ref S, .ref z, res], []⟩)) _ _ _
  refine wpAny_bind (wpAny_rule ?_)
  refine wpAny_bind ?_
  show wpAny _ _ (updateSeq S (·.push .none) >>= fun _ => updateSeq S (·.pop)) _ _ _
  refine wpAny_bind (wpAny_updateSeq hS0 rfl ?_)
  have hS2 := Heap.get?_update_self (Obj.mapSeq (·.push Value.none)) hS0 rfl
  refine wpAny_updateSeq (hz := by seq_fits) hS2 rfl ?_
  have hS3 := Heap.get?_update_self (Obj.mapSeq (·.pop)) hS2 rfl
  have oth : ∀ b o, b ≠ S → s.heap.get? b = some o → ((s.heap.update S (Obj.mapSeq (·.push Value.none))).update S (Obj.mapSeq (·.pop))).get? b = some o := fun b o hb e => (Heap.get?_update_other _ _ (Ne.symm hb)).trans ((Heap.get?_update_other _ _ (Ne.symm hb)).trans e)
  refine wpAny_pure ⟨plainId_quiet F.plain_extend_loop _, zip_loop (s := s) (h0 := s.heap) (lo := lo) hh D hS hSl hxy hn res hlo hfz hR xs.size 0 _ _ #[] [] (Nat.sub_zero _) (Nat.zero_le _) (st.keep hS oth ⟨_, hS3⟩) ?_ ?_ ?_ (fun b o b1 _ _ _ _ e => oth b o b1 e) hS3 rfl rfl ⟨List.Pairwise.nil, (fun _ ha => nomatch ha), fun j a hj => by simp at hj⟩⟩
  · obtain ⟨o, ho, r⟩ := hl1
    exact ⟨o, oth _ _ hSl.1.symm ho, r⟩
  · obtain ⟨o, ho, r⟩ := hl2
    exact ⟨o, oth _ _ hSl.2.symm ho, r⟩
  · have e : ((s.heap.update S (Obj.mapSeq (·.push Value.none))).update S (Obj.mapSeq (·.pop))).objs.size = s.heap.objs.size := by
      first
        | rw [Heap.size_update, Heap.size_update]
        | simp [Heap.update]
    rw [e]
    exact hle
/-- list(z) for such a zip -/
theorem zip_list {z TI TO i1 i2 l1 l2 : Addr} {xs ys : Array Value} {Q : Value → Shared → Prop} (hh : A.handled = none) (D : ZipApart z TI TO i1 i2 l1 l2) (hxy : xs.size = ys.size) (hn : xs.size ≤ sizeLine)
    (hfz : z < s.heap.objs.size ∧ TI < s.heap.objs.size ∧ TO < s.heap.objs.size ∧ i1 < s.heap.objs.size ∧ i2 < s.heap.objs.size) (hz : IsZip s.heap z TI TO .none) (st : ZS s.heap z TI TO i1 i2 l1 l2 0) (hl1 : s.heap.IsTuple l1 xs) (hl2 : s.heap.IsTuple l2 ys)
    (hQ : ∀ h' acc c as, (∀ b o, b ≠ z → b ≠ TO → b ≠ i1 → b ≠ i2 → s.heap.get? b = some o → h'.get? b = some o) → h'.get? s.heap.objs.size = some { cls := .type "list", dict := none, data := .seq acc c, slots := #[] } → as.length = xs.size → Pairs xs ys (s.heap.objs.size + 1) h' as → acc.toList = as.map Value.ref → Q (.ref s.heap.objs.size) { s with heap := h' }) :
    wpAny (model prog w) A (call (.type "list") [.ref z]) Q E s := by
  refine callType_codes (Q₁ := fun obj s1 => obj = .ref s.heap.objs.size ∧ s1 = { s with heap := s.heap.push { cls := .type "list", data := .seq #[] } }) F.called_list (F.typeCall_list_1 _) F.entry_list_init (code_list_new _ ⟨rfl, rfl⟩) fun obj s1 hs1 => ?_
  obtain ⟨rfl, rfl⟩ := hs1
  have hS : (s.heap.push { cls := .type "list", data := .seq #[] }).get? s.heap.objs.size = some { cls := .type "list", data := .seq #[] } := Heap.get?_push_size _ rfl
  refine ⟨⟨_, hS, rfl⟩, F.args_list_init_2 _ _, ?_⟩
  show wpAny _ _ (do let old ← Builtin.List.listItems (.ref s.heap.objs.size); Builtin.List.listUpdate (.ref s.heap.objs.size) (fun _ => #[]); letGo old.toList.reverse; Builtin.List.listExtendWith (.ref s.heap.objs.size) (.ref z) .none) _ _ _
  refine wpAny_bind ?_
  unfold Builtin.List.listItems
  refine wpAny_bind (wpAny_seqItems hS rfl (wpAny_pure ?_))
  show wpAny _ _ (updateSeq s.heap.objs.size (fun _ => #[]) >>= fun _ => letGo (#[] : Array Value).toList.reverse >>= fun _ => Builtin.List.listExtendWith (.ref s.heap.objs.size) (.ref z) .none) _ _ _
  refine wpAny_bind (wpAny_updateSeq hS rfl ?_)
  have hS2 := Heap.get?_update_self (Obj.mapSeq (fun _ => (#[] : Array Value))) hS rfl
  have oth : ∀ b o, s.heap.get? b = some o → ((s.heap.push { cls := .type "list", data := .seq #[] }).update s.heap.objs.size (Obj.mapSeq (fun _ => (#[] : Array Value)))).get? b = some o :=
    fun b o e => (Heap.get?_update_other _ _ (Nat.ne_of_gt (Heap.lt_size e))).trans (Heap.get?_push_of_some _ e)
  refine wpAny_bind (wpAny_letGo ?_)
  have hsz2 : ((s.heap.push { cls := .type "list", data := .seq #[] }).update s.heap.objs.size (Obj.mapSeq (fun _ => (#[] : Array Value)))).objs.size = s.heap.objs.size + 1 := by rw [Heap.size_update, Heap.size_push]
  generalize hH2 : (s.heap.push { cls := .type "list", data := .seq #[] }).update s.heap.objs.size (Obj.mapSeq (fun _ => (#[] : Array Value))) = H2 at hS2 oth hsz2 ⊢
  have lt1 : s.heap.objs.size < s.heap.objs.size + 1 := Nat.lt_succ_self _
  have hl1' : l1 < s.heap.objs.size := by
    obtain ⟨o, ho, _⟩ := hl1
    exact Heap.lt_size ho
  have hl2' : l2 < s.heap.objs.size := by
    obtain ⟨o, ho, _⟩ := hl2
    exact Heap.lt_size ho
  obtain ⟨f1, f2, f3, f4, f5⟩ := hfz
  have nS : s.heap.objs.size ≠ z ∧ s.heap.objs.size ≠ TI ∧ s.heap.objs.size ≠ TO ∧ s.heap.objs.size ≠ i1 ∧ s.heap.objs.size ≠ i2 := ⟨Nat.ne_of_gt f1, Nat.ne_of_gt f2, Nat.ne_of_gt f3, Nat.ne_of_gt f4, Nat.ne_of_gt f5⟩
  refine zip_extend (s := { s with heap := H2 }) (A := A.in1) (lo := s.heap.objs.size + 1) (l1 := l1) (l2 := l2) (xs := xs) (ys := ys) hh D nS ⟨Nat.ne_of_gt hl1', Nat.ne_of_gt hl2'⟩ hxy hn .none lt1 ⟨Nat.lt_succ_of_lt f1, Nat.lt_succ_of_lt f3, Nat.lt_succ_of_lt f4, Nat.lt_succ_of_lt f5⟩ (Nat.le_of_eq hsz2.symm) (oth _ _ hz) (st.keep nS (fun b o _ e => oth b o e) ⟨_, hS2⟩) ?_ ?_ _ hS2 ?_
  · obtain ⟨o, ho, r⟩ := hl1
    exact ⟨o, oth _ _ ho, r⟩
  · obtain ⟨o, ho, r⟩ := hl2
    exact ⟨o, oth _ _ ho, r⟩
  · intro h' acc c as hk hSg hl hP hacc
    exact ⟨rfl, hQ h' acc c as (fun b o b2 b3 b4 b5 e => hk b o (Nat.ne_of_lt (Heap.lt_size e)) b2 b3 b4 b5 (oth b o e)) hSg hl hP hacc⟩
end
end Gm
/-! list(zip(xs, ys)) of two tuples, as a rule. -/
namespace Gm
open PySem PySem.Spec PyProof.Rows L2 RZ
/-- pairs told at their addresses -/
def putP (H : Hp) : List Addr → List (V × V) → Hp
  | a :: as, p :: ps => upd (putP H as ps) a (.tup [p.1, p.2])
  | _, _ => H
theorem putP_off {H : Hp} {b : Addr} : ∀ {as : List Addr} {ps : List (V × V)}, b ∉ as → putP H as ps b = H b
  | [], _, _ => by
    unfold putP
    rfl
  | _ :: _, [], _ => rfl
  | a :: as, p :: ps, h => by
    show upd (putP H as ps) a (.tup [p.1, p.2]) b = H b
    rw [upd_ne (fun e => h (by rw [e]; exact List.mem_cons_self ..)), putP_off fun z => h (List.mem_cons_of_mem _ z)]
theorem putP_at {H : Hp} : ∀ {as : List Addr} {ps : List (V × V)} {j : Nat} {a : Addr} {p : V × V}, as.Nodup → as[j]? = some a → ps[j]? = some p → putP H as ps a = some (.tup [p.1, p.2])
  | b :: as, q :: ps, 0, a, p, _, e1, e2 => by
    cases Option.some.inj e1
    cases Option.some.inj e2
    exact upd_same
  | b :: as, q :: ps, j + 1, a, p, nd, e1, e2 => by
    have e1' : as[j]? = some a := e1
    have nd' := List.nodup_cons.mp nd
    show upd (putP H as ps) b (.tup [q.1, q.2]) a = _
    rw [upd_ne (fun e => nd'.1 (by rw [← e]; exact List.mem_of_getElem? e1'))]
    exact putP_at nd'.2 e1' e2
def tListZip (K : Frag) (tas : TA) : TE := fun σ H Q => tas σ H fun vs H1 => ∃ a b xs ys, vs = [.ref a, .ref b] ∧ SqT K H1 a xs ∧ SqT K H1 b ys ∧ xs.length = ys.length ∧
  ∀ (H' : Hp) (p : Addr) (ts : List Addr), Same H1 H' → H1 p = none → p ∉ ts → H' p = some (.lst (ts.map V.ref)) → ts.length = xs.length → (∀ (j : Nat) (t : Addr), ts[j]? = some t → ∃ x y, xs[j]? = some x ∧ ys[j]? = some y ∧ H' t = some (.tup [x, y])) → Q (.ref p) H'
section
variable {X : Cx} {pn : List (Addr × Obj)} {σ : L2.St} {H : Hp} {s : Shared}
theorem refs_vals : ∀ as : List Addr, Vals (as.map V.ref) (as.map Value.ref)
  | [] => .nil
  | _ :: as => .cons rfl (refs_vals as)
theorem pairs_laid {h' : Heap} {xs ys : List V} {us ws : List Value} {acc : Array Value} {c : Nat} {as : List Addr} {S lo : Addr} (I : Inv X pn σ H s) (hz : xs.length ≤ sizeLine) (hxy : xs.length = ys.length) (rx : Vals xs us) (ry : Vals ys ws)
    (hk : ∀ b o, s.heap.get? b = some o → h'.get? b = some o) (hSz : s.heap.objs.size ≤ S) (hlo : S < lo) (hS : h'.get? S = some { cls := .type "list", dict := none, data := .seq acc c, slots := #[] }) (hl : as.length = xs.length) (hP : Pairs us.toArray ws.toArray lo h' as) (hacc : acc.toList = as.map Value.ref) :
    ∃ H' : Hp, Same H H' ∧ H S = none ∧ S ∉ as ∧ H' S = some (.lst (as.map V.ref)) ∧ (∀ (j : Nat) (t : Addr), as[j]? = some t → ∃ x y, xs[j]? = some x ∧ ys[j]? = some y ∧ H' t = some (.tup [x, y])) ∧ Inv X pn σ H' { s with heap := h' } := by
  have hSn : S ∉ as := fun z => absurd (hP.above _ z) (Nat.not_le_of_gt hlo)
  have nd : as.Nodup := List.Pairwise.imp (fun {a b} (h : a < b) => Nat.ne_of_lt h) hP.rise
  have big : ∀ t ∈ as, s.heap.objs.size ≤ t := fun t ht => Nat.le_trans hSz (Nat.le_of_lt (Nat.lt_of_lt_of_le hlo (hP.above t ht)))
  have new : ∀ t ∈ as, H t = none := fun t ht => I.hok.fresh (big t ht)
  have newS : H S = none := I.hok.fresh hSz
  have items : ∀ {j : Nat} {t : Addr}, as[j]? = some t → ∃ x y, xs[j]? = some x ∧ ys[j]? = some y ∧ (xs.zip ys)[j]? = some (x, y) := fun {j t} e => by
    have hj : j < as.length := (List.getElem?_eq_some_iff.mp e).1
    refine ⟨xs[j]'(by omega), ys[j]'(by omega), List.getElem?_eq_getElem _, List.getElem?_eq_getElem _, ?_⟩
    rw [List.getElem?_zip_eq_some]
    exact ⟨List.getElem?_eq_getElem _, List.getElem?_eq_getElem _⟩
  have off : ∀ b, b ∉ as → b ≠ S → putP (upd H S (.lst (as.map V.ref))) as (xs.zip ys) b = H b := fun b h1 h2 => by rw [putP_off h1, upd_ne h2]
  have low : ∀ b o, s.heap.get? b = some o → b ∉ as ∧ b ≠ S := fun b o e => ⟨fun z => absurd (Heap.lt_size e) (Nat.not_lt.mpr (big b z)), fun z => absurd (Heap.lt_size e) (Nat.not_lt.mpr (by rw [z]; exact hSz))⟩
  have kp : ∀ b u, H b = some u → (putP (upd H S (.lst (as.map V.ref))) as (xs.zip ys)) b = some u := fun b u e => by
    rw [off b (fun z => by rw [new b z] at e; cases e) (fun z => by rw [z, newS] at e; cases e)]
    exact e
  have eS : putP (upd H S (.lst (as.map V.ref))) as (xs.zip ys) S = some (.lst (as.map V.ref)) := by rw [putP_off hSn, upd_same]
  refine ⟨putP (upd H S (.lst (as.map V.ref))) as (xs.zip ys), kp, newS, hSn, eS, fun j t e => ?_, ?_⟩
  · obtain ⟨x, y, e1, e2, e3⟩ := items e
    exact ⟨x, y, e1, e2, putP_at nd e e3⟩
  refine I.call' (ch := []) rfl ⟨fun b o q _ _ _ => hk b o q, fun b o q _ _ _ => ⟨o.slots, hk b o q⟩, fun b o q n _ => ?_, fun b o q _ => ⟨o, hk b o q⟩, fun b xs q => kp b _ q, fun b o u q => kp b _ q, fun b ps q => ⟨#[], by rw [kp b _ q]; simp⟩⟩ (fun b u q => ?_) I.bare fun b z => by simp at z
  · obtain ⟨z1, z2⟩ := low b o q
    rw [off b z1 z2]
    exact n
  · by_cases hb : b ∈ as
    · obtain ⟨j, ej⟩ := List.getElem?_of_mem hb
      obtain ⟨x, y, e1, e2, e3⟩ := items ej
      rw [putP_at nd ej e3] at q
      cases q
      obtain ⟨x', y', f1, f2, f3⟩ := hP.pairs j b ej
      obtain ⟨u1, g1, r1⟩ := rx.get e1
      obtain ⟨u2, g2, r2⟩ := ry.get e2
      have f1' : us[j]? = some x' := by simpa using f1
      have f2' : ws[j]? = some y' := by simpa using f2
      rw [g1] at f1'
      rw [g2] at f2'
      cases f1'
      cases f2'
      exact ⟨by show 2 ≤ sizeLine; decide, [_, _], .cons r1 (.cons r2 .nil), ⟨_, f3, rfl, _, rfl⟩⟩
    · by_cases hb2 : b = S
      · rw [hb2] at q ⊢
        rw [eS] at q
        cases q
        refine ⟨by rw [List.length_map]; omega, acc.toList, c, by rw [hacc]; exact refs_vals as, ?_⟩
        rw [Array.toArray_toList]
        exact hS
      · rw [off b hb hb2] at q
        exact (I.hok b u q).stay (fun d v _ y => hk d v y) (fun d y => kp d _ y) fun d xs y => kp d _ y
end
section
variable {X : Cx} {e e2 : Expr} {tas : TA} {p q pos zpos : Pos}
/-- list(zip(e, e2)) -/
theorem pe_listZip (hc : X.calm = true) (hg : Gl X "list") (hm : X.mg "list" = none) (hgz : Gl X "zip") (hmz : X.mg "zip" = none) (ha : PA X [e, e2] tas)
    (hs : starEach [.Call (.Name "zip" q) [e, e2] [] zpos] X.env = (false, eval (.Call (.Name "zip" q) [e, e2] [] zpos) X.env) :: starEach [] X.env := by rfl)
    (hz : starEach [e, e2] X.env = (false, eval e X.env) :: starEach [e2] X.env := by rfl) (hpl : (backTo zpos (starEach [e2] X.env)).any (·.1) = false := by rfl) :
    PE X (.Call (.Name "list" p) [.Call (.Name "zip" q) [e, e2] [] zpos] [] pos) (tListZip X.K tas) := by
  refine ⟨fun pn sh σ H Q I h => ?_⟩
  have hv : bootBuiltins "list" = some (.type "list") := by decide +kernel
  refine wpAny_Call_Name_kw (ld_blt I hg hm hv ?_)
  refine PyProof.Rows.callWith_type1 ?_ hs rfl
  rw [hs]
  show wpAny _ _ (spliced ((false, eval (.Call (.Name "zip" q) [e, e2] [] zpos) X.env) :: backTo pos (starEach [] X.env))) _ _ sh
  refine Calls.spliced_cons ?_
  refine Call_ (ld_blt I hgz hmz PyProof.Rows.boot_zip (PyProof.Rows.callWith_type1 (thn (ha.run zpos pn sh σ H _ I h) fun argv sA ⟨vs, H1, J, rel, post⟩ => ?_) hz hpl))
  obtain ⟨a, b, xs, ys, ex, hqx, hqy, hxy, post⟩ := post
  subst ex
  cases rel with
  | cons rel1 rr =>
    cases rr with
    | cons rel2 rr =>
      cases rr
      cases rel1
      cases rel2
      obtain ⟨us, rvx, p1, hlx⟩ := J.tuple hqx
      obtain ⟨ws, rvy, p2, hly⟩ := J.tuple hqy
      obtain ⟨o1, ho1, _⟩ := id p1
      obtain ⟨o2, ho2, _⟩ := id p2
      refine call_zipT (show sA.heap.IsTuple a us.toArray from p1) (show sA.heap.IsTuple b ws.toArray from p2) fun h' hzz hTI hTO h1 h2 hsz hk => ?_
      refine Calls.spliced_nil ?_
      have lx := rvx.length
      have ly := rvy.length
      have ap := PySem.W.ktu_apart sA.heap.objs.size a b (Heap.lt_size ho1) (Heap.lt_size ho2)
      have low : ∀ c o, sA.heap.get? c = some o → c ≠ sA.heap.objs.size + 4 ∧ c ≠ sA.heap.objs.size + 3 ∧ c ≠ sA.heap.objs.size ∧ c ≠ sA.heap.objs.size + 1 := fun c o e => by
        have d : c < sA.heap.objs.size := Heap.lt_size e
        exact ⟨Nat.ne_of_lt (Nat.lt_add_right 4 d), Nat.ne_of_lt (Nat.lt_add_right 3 d), Nat.ne_of_lt d, Nat.ne_of_lt (Nat.lt_add_right 1 d)⟩
      have five : ∀ k : Nat, k < 5 → sA.heap.objs.size + k < h'.objs.size := fun k hk5 => by
        rw [hsz]
        exact Nat.add_lt_add_left hk5 _
      refine zip_list (s := { sA with heap := h' }) (xs := us.toArray) (ys := ws.toArray) (J.ok.hd hc) ap (by simp; omega) (by rw [List.size_toArray, ← lx]; exact hlx) ⟨five 4 (by decide), five 2 (by decide), five 3 (by decide), five 0 (by decide), five 1 (by decide)⟩ hzz ⟨hTI, h1, h2, .inl ⟨hzz, _, _, hTO⟩⟩ ?_ ?_ fun h3 acc c as hk3 hS3 hl3 hP3 hacc3 => ?_
      · exact (show sA.heap.IsTuple a us.toArray from p1).imp fun o r => ⟨hk _ _ r.1, r.2⟩
      · exact (show sA.heap.IsTuple b ws.toArray from p2).imp fun o r => ⟨hk _ _ r.1, r.2⟩
      · have hk4 : ∀ b o, sA.heap.get? b = some o → h3.get? b = some o := fun b o e => by
          obtain ⟨q1, q2, q3, q4⟩ := low b o e
          exact hk3 b o q1 q2 q3 q4 (hk b o e)
        obtain ⟨H', k1, k2, k3, k4, k5, J3⟩ := pairs_laid (S := h'.objs.size) (lo := h'.objs.size + 1) J hlx hxy rvx rvy hk4 (Nat.le_of_lt (five 0 (by decide))) (Nat.lt_succ_self _) hS3 (by rw [hl3, List.size_toArray, lx]) hP3 hacc3
        exact ⟨.ref h'.objs.size, H', J3, rfl, post H' _ as k1 k2 k3 k4 (by rw [hl3, List.size_toArray, lx]) k5⟩
end
end Gm
/-! An own class walked, whose __iter__ answers iter of a tuple. -/
namespace Gm
open PySem PySem.Spec PyProof.Rows L2
/-- what a def promises where the heap has at least n places -/
structure FnAt (n : Nat) (P : Program) (w : World) (K : PySem.W.Frag) (mg : Str → Option Value) (base : Heap) (k : Nat) (f : Addr) (fd : FuncData) (ps : List Str) (sp : Sp) : Prop where
  len : ∀ vs H Q E, sp vs H Q E → vs.length = ps.length
  run : ∀ (A : Around) (outer : List Env) (s : Shared) (H : Hp) (args : Args) (us : List Value) (vs : List V) (Q : VK) (E : XK), n ≤ s.heap.objs.size → Room k A → Env0 P w K mg base A outer s H → BindsTo s fd args (ps.zip us) → Vals vs us → sp vs H Q E →
    codeAny (model P w) A (.call (.ref f) args) (CR CX0 outer P w H s Q E) s
theorem fn_at {n : Nat} {P : Program} {w : World} {K : PySem.W.Frag} {mg : Str → Option Value} {base : Heap} {k : Nat} {x qual : Str} {st : Stmt} {f : Addr} {fd : FuncData} {N ps : List Str} {sp : Sp} (F : Fun K x qual st f fd) (S : FnScope N ps (defScope st))
    (len : ∀ vs H Q E, sp vs H Q E → vs.length = ps.length)
    (body : ∀ (cdv : Value) (A : Around) (outer : List Env) (s : Shared) (H : Hp) (vs : List V) (Q : VK) (E : XK), n ≤ s.heap.objs.size → Room k (A.deeper (envOfC qual (defScope st) s.heap.objs.size f cdv)) → sp vs H Q E →
      ∃ t, PSs (cxOf CX0 P w K mg base N qual (defScope st) f cdv A outer s H E) (defBody st) t ∧ t { nx := fun _ H' => Q .non H', rt := Q } (start N vs) H) : FnAt n P w K mg base (k + 1) f fd ps sp := by
  obtain ⟨oc, od, kV, doc, pm, an, cdv, ct, osl, rfl, lk, hcd⟩ := F.ex
  refine ⟨len, fun A outer s H args us vs Q E hn hr e0 hb r q => ?_⟩
  have hl := len _ _ _ _ q
  have XK := e0.mod.kin.keeps fun b o e => (e0.bs b o e).1
  have lim := e0.mod.nolimit.keeps fun b o e => (e0.bs b o e).1
  have kinds : ∀ y ∈ ps.zip us, (defScope st).names.lookup y.1 = some .local ∨ ((defScope st).names.lookup y.1 = some .cell ∧ ((cellsFrom (s.heap.objs.size + 1) (defScope st).names []).lookup y.1).isSome = true) := fun ⟨m, v⟩ hy => (S.par m (List.of_mem_zip hy).1).imp id fun c => ⟨c, PySem.W.cellsFrom_some _ _ _ (.inl c)⟩
  refine codeAny_call_function hr.depth (XK _ _ lk) rfl S.co S.gen rfl (PySem.W.codeRec_of XK hcd) (hb _ _ _ _ ?_)
  refine wpAny_newFunctionEnv_cells S.kind kinds fun env he s1 xc => ?_
  subst he
  refine ⟨lim.keeps xc.toInCall.keep, codeAny_func ?_⟩
  obtain ⟨t, ht, hq⟩ := body cdv A outer s H vs Q E hn (hr.deeper _) q
  have I0 := inv_start (CX := CX0) (E := E) S hr.hd e0 hl r xc
  refine wpAny_mono (ht.run [] s1 (start N vs) H _ I0 hq) (fun fl s' z => ?_) fun e s' z => z
  match fl, z with
  | .ret u, z =>
    obtain ⟨v, σ', H', J, rv, q⟩ := z
    exact ⟨v, H', J.os, J.bare, J.base, J.hok, rv, q⟩
  | .next, z =>
    obtain ⟨σ', H', J, q⟩ := z
    exact ⟨V.non, H', J.os, J.bare, J.base, J.hok, rfl, q⟩
  | .brk, z =>
    obtain ⟨_, _, _, q⟩ := z
    exact False.elim q
  | .cont, z =>
    obtain ⟨_, _, _, q⟩ := z
    exact False.elim q
/-! ### iter of a tuple -/
def ItT (l it : Addr) : HO := .ext fun h => h.get? it = some { cls := .type "tuple_iterator", data := .fields #[.ref l, .int 0 0] }
theorem itT_ok {P : Program} {w : World} {H : Hp} {h : Heap} {l it : Addr} (e : h.get? it = some { cls := .type "tuple_iterator", data := .fields #[.ref l, .int 0 0] }) : ObjOk P w H h it (ItT l it) := ⟨e, ⟨_, e⟩, fun h1 h2 q k => k _ q⟩
def rIterT (K : PySem.W.Frag) (n : Nat) : List V → Hp → VK → Prop := fun xs H Q => ∃ (l : Addr) (zs : List V), xs = [.ref l] ∧ SqT K H l zs ∧ ∀ it, H it = none → n ≤ it → Q (.ref it) (upd H it (ItT l it))
section
variable {X : Cx}
theorem call_iterT : CallR X (.builtin "iter") (rIterT X.K X.s_0.heap.objs.size) := by
  intro pn sh σ H xs argv Q I r h
  obtain ⟨l, zs, rfl, hq, q⟩ := h
  obtain ⟨u, rfl, ru⟩ := vals1 r
  cases ru
  obtain ⟨vals, rv, pl, hz⟩ := I.tuple hq
  refine Calls.call_function_entry (by decide +kernel) (by decide +kernel) PySem.W.kdk_entry_iter (PySem.W.kdk_args_iter _) ?_
  unfold Builtin.«iter»
  refine wpAny_bind (m := someArgs "iter" 1 2 _) (wpAny_of_eq (a := [Value.ref l]) (by first | rfl | kernel_rfl!) ?_)
  show wpAny _ _ (pyIter (.ref l) >>= _) _ _ _
  refine wpAny_bind (wpAny_pyIter_tuple (show sh.heap.IsTuple l vals.toArray from pl) ?_)
  refine wpAny_pure ⟨_, rfl, ?_⟩
  exact ⟨.ref sh.heap.objs.size, _, I.laid (t' := sh.toks) (fun b u e => Heap.get?_push_of_some _ e) (Nat.le_refl _) (itT_ok (Heap.get?_push_size _ rfl)), rfl, q _ (I.hok.fresh (Nat.le_refl _)) I.sz⟩
end
theorem drop_upd {H : Hp} {a : Addr} {o : HO} (h : H a = none) : ItX.dropH (upd H a o) a = H := ItX.dropH_upd h
section
variable {X : Cx} {tg e : Expr} {te : TE} {C f : Addr} {fd : FuncData} {ps : List Str} {k : Nat} {sp : Sp}
/-- e, of an own class, walked by what its __iter__ answers: iter of a tuple -/
def iOwnT (K : PySem.W.Frag) (n : Nat) (C : Addr) (sp : Sp) (te : TE) : TI := fun σ H R => te σ H fun x H1 => ∃ a dx fs, x = .ref a ∧ H1 a = some (.ins C dx fs) ∧
  sp [.ref a] H1 (fun v H2 => ∃ it l, v = .ref it ∧ H2 it = some (ItT l it) ∧ n ≤ it ∧ R (Itt K l) (ItX.dropH H2 it)) L2.E0
theorem pi_ownT (hs : PySem.W.findIn X.K (.ref C) "__iter__" = some (some (.ref f))) (hf : PySem.W.isFn X.K (.ref f) = true) (F : FnAt X.s_0.heap.objs.size X.prog X.w X.K X.mg X.base k f fd ps sp) (hr : Room k X.A) (hb : Binds X.K fd ps []) (he : PE X e te) :
    PI X tg e (iOwnT X.K X.s_0.heap.objs.size C sp te) := by
  refine ⟨fun pn sh σ H R I h => ?_⟩
  refine thn (he.run pn sh σ H _ I h) fun u sA ⟨v, H1, J, rel, q⟩ => ?_
  obtain ⟨a, dx, fs, rfl, ha, q⟩ := q
  cases rel
  obtain ⟨od, Ja⟩ := inst_of J ha
  obtain ⟨m, hF⟩ := J.fr
  refine PySem.W.owit_iter hF J.ok.mod.kin Ja hs hf ?_
  have hl := F.len _ _ _ _ q
  have bnd := hb sA [.ref a] J.kIn (by simpa using hl)
  refine wpAny_call (codeAny_mono (F.run X.A X.stack sA H1 ⟨[.ref a], []⟩ [.ref a] [.ref a] _ _ J.sz hr J.env0 (by simpa using bnd) (.cons rfl .nil) q) fun r s' z => ?_)
  match r, z with
  | .error er, z => exact z.elim
  | .ok .next, z => exact False.elim z
  | .ok .brk, z => exact False.elim z
  | .ok .cont, z => exact False.elim z
  | .ok (.ret w), z =>
    obtain ⟨v2, H2, J2, rel2, it, l, rfl, hit, hn, q2⟩ := J.after z
    cases rel2
    have eo := (J2.hok it _ hit).1
    have ty : s'.TypeIs (.ref it) "tuple_iterator" := ⟨_, eo, rfl⟩
    show PySem.W.OwitIt _ _ _ _ (.ref it) s'
    unfold PySem.W.OwitIt
    refine wpAny_specialOf (name := Str.ofString "__next__") ty PySem.F.slot_tuple_iterator_next.lookup ?_
    have hit' := hit
    unfold ItT at hit'
    refine ⟨it, [it], _, _, ItX.dropH H2 it, rfl, ItX.inv_drop J2 hit', turn_tuple l it, ⟨_, eo, rfl, rfl⟩, fun b hb => ?_, q2⟩
    have e : b = it := by simpa using hb
    rw [e]
    exact ItX.inv_fp J2 hit hn
end
end Gm
/-! x == t: an own class with its own ==, and a tuple. -/
namespace Gm
open PySem PySem.Spec PyProof.Rows L2
section
variable {X : Cx} {C f : Addr} {fd : FuncData} {ps : List Str} {CX : CXT} {k : Nat} {sp : Sp} {E : XK}
def rOwnCmpT (K : Frag) (C : Addr) (sp : Sp) (E : XK) : R2 := fun x y H Q => ∃ a b dx fs xs, x = .ref a ∧ y = .ref b ∧ H a = some (.ins C dx fs) ∧ SqT K H b xs ∧ sp [x, y] H Q E
theorem op_ownCmpT (hs : PySem.W.findIn X.K (.ref C) "__eq__" = some (some (.ref f))) (hf : PySem.W.isFn X.K (.ref f) = true) (hnf : PySem.W.notFirst X.K C (.type "tuple") = true)
    (F : FnOk X.prog X.w X.K X.mg X.base CX k f fd ps sp) (hr : Room k X.A) (hb : Binds X.K fd ps []) (hx : Passes CX X E) : OpR X (compareOp .Eq) (rOwnCmpT X.K C sp E) := by
  intro pn sg σ H x y v u Q I rx ry h
  obtain ⟨a, b, dx, fs, xs, rfl, rfl, ha, hq, q⟩ := h
  cases rx
  cases ry
  obtain ⟨od, J⟩ := inst_of I ha
  obtain ⟨vals, rv, pt, _⟩ := I.tuple hq
  obtain ⟨o, ho, hc, _⟩ := id pt
  obtain ⟨m, hF⟩ := I.fr
  show wpAny _ _ (richCompare .Eq (.ref a) (.ref b)) _ _ _
  refine PySem.W.cmp_K (op := .Eq) (tb := .type "tuple") hr.units0 hF I.ok.mod.kin J ?_ hnf hs hf ?_
  · exact hc ▸ (PySem.W.Looks.ld ho).andThen .now
  refine wpAny_mono (run_fn (us := [.ref a, .ref b]) (vs := [.ref a, .ref b]) F hr hb .nil hx I (.cons rfl (.cons rfl .nil)) q) (fun w s' z => ?_) fun _ _ z => z
  obtain ⟨zR, HR, IR, relZ, postZ⟩ := z
  exact SlX.cmpback relZ ⟨zR, HR, IR, relZ, postZ⟩
end
end Gm
namespace K01
open PySem PySem.Spec PyProof.Rows L2 Gm
def topS (i : Nat) : Stmt := PySem.Challenge.pw_gridmetric_k01_matrix_arithmetic.main.body.getD i (.Pass ⟨0, 0, 0, 0⟩)
abbrev s_is_integer : Stmt := topS 5
theorem sc_is_integer : FnScope ["value"] ["value"] (defScope s_is_integer) := ⟨rfl, rfl, rfl, by decide +kernel, rfl, by decide +kernel, by decide +kernel⟩
abbrev s_dot : Stmt := topS 6
theorem sc_dot : FnScope ["a", "b", "x", "y"] ["a", "b"] (defScope s_dot) := ⟨rfl, rfl, rfl, by decide +kernel, rfl, by decide +kernel, by decide +kernel⟩
abbrev s_Grid_init : Stmt := inClass (topS 8) 0
theorem sc_Grid_init : FnScope ["self", "rows", "width"] ["self", "rows", "width"] (defScope s_Grid_init) := ⟨rfl, rfl, rfl, by decide +kernel, rfl, by decide +kernel, by decide +kernel⟩
abbrev s_Grid_eq : Stmt := inClass (topS 8) 1
theorem sc_Grid_eq : FnScope ["self", "other"] ["self", "other"] (defScope s_Grid_eq) := ⟨rfl, rfl, rfl, by decide +kernel, rfl, by decide +kernel, by decide +kernel⟩
abbrev s_Grid_len : Stmt := inClass (topS 8) 2
theorem sc_Grid_len : FnScope ["self"] ["self"] (defScope s_Grid_len) := ⟨rfl, rfl, rfl, by decide +kernel, rfl, by decide +kernel, by decide +kernel⟩
abbrev s_Grid_iter : Stmt := inClass (topS 8) 3
theorem sc_Grid_iter : FnScope ["self"] ["self"] (defScope s_Grid_iter) := ⟨rfl, rfl, rfl, by decide +kernel, rfl, by decide +kernel, by decide +kernel⟩
abbrev s_Grid_add : Stmt := inClass (topS 8) 4
theorem sc_Grid_add : FnScope ["self", "other", "pairs", "one", "two", "x", "y"] ["self", "other"] (defScope s_Grid_add) := ⟨rfl, rfl, rfl, by decide +kernel, rfl, by decide +kernel, by decide +kernel⟩
abbrev s_Grid_sub : Stmt := inClass (topS 8) 5
theorem sc_Grid_sub : FnScope ["self", "other", "pairs", "one", "two", "x", "y"] ["self", "other"] (defScope s_Grid_sub) := ⟨rfl, rfl, rfl, by decide +kernel, rfl, by decide +kernel, by decide +kernel⟩
abbrev s_Grid_mul : Stmt := inClass (topS 8) 6
theorem sc_Grid_mul : FnScope ["self", "other", "columns", "row", "column"] ["self", "other"] (defScope s_Grid_mul) := ⟨rfl, rfl, rfl, by decide +kernel, rfl, by decide +kernel, by decide +kernel⟩
abbrev s_Grid_neg : Stmt := inClass (topS 8) 7
theorem sc_Grid_neg : FnScope ["self"] ["self"] (defScope s_Grid_neg) := ⟨rfl, rfl, rfl, by decide +kernel, rfl, by decide +kernel, by decide +kernel⟩
abbrev s_Grid_scaled : Stmt := inClass (topS 8) 8
theorem sc_Grid_scaled : FnScope ["self", "k", "row", "item"] ["self", "k"] (defScope s_Grid_scaled) := ⟨rfl, rfl, rfl, by decide +kernel, rfl, by decide +kernel, by decide +kernel⟩
abbrev s_Grid_transposed : Stmt := inClass (topS 8) 9
theorem sc_Grid_transposed : FnScope ["self", "places", "k", "row"] ["self"] (defScope s_Grid_transposed) := ⟨rfl, rfl, rfl, by decide +kernel, rfl, by decide +kernel, by decide +kernel⟩
abbrev s_Grid_times : Stmt := inClass (topS 8) 10
theorem sc_Grid_times : FnScope ["self", "row", "own"] ["self", "row"] (defScope s_Grid_times) := ⟨rfl, rfl, rfl, by decide +kernel, rfl, by decide +kernel, by decide +kernel⟩
abbrev s_Grid_before : Stmt := inClass (topS 8) 11
theorem sc_Grid_before : FnScope ["self", "row"] ["self", "row"] (defScope s_Grid_before) := ⟨rfl, rfl, rfl, by decide +kernel, rfl, by decide +kernel, by decide +kernel⟩
abbrev s_Grid_stacked : Stmt := inClass (topS 8) 12
theorem sc_Grid_stacked : FnScope ["self", "b"] ["self", "b"] (defScope s_Grid_stacked) := ⟨rfl, rfl, rfl, by decide +kernel, rfl, by decide +kernel, by decide +kernel⟩
abbrev s_Grid_is_square : Stmt := inClass (topS 8) 13
theorem sc_Grid_is_square : FnScope ["self"] ["self"] (defScope s_Grid_is_square) := ⟨rfl, rfl, rfl, by decide +kernel, rfl, by decide +kernel, by decide +kernel⟩
abbrev s_checked_rows : Stmt := topS 9
theorem sc_checked_rows : FnScope ["rows", "row", "item"] ["rows"] (defScope s_checked_rows) := ⟨rfl, rfl, rfl, by decide +kernel, rfl, by decide +kernel, by decide +kernel⟩
abbrev s_checked_width : Stmt := topS 10
theorem sc_checked_width : FnScope ["rows", "width", "row"] ["rows", "width"] (defScope s_checked_width) := ⟨rfl, rfl, rfl, by decide +kernel, rfl, by decide +kernel, by decide +kernel⟩
abbrev s_check_same_size : Stmt := topS 11
theorem sc_check_same_size : FnScope ["a", "b"] ["a", "b"] (defScope s_check_same_size) := ⟨rfl, rfl, rfl, by decide +kernel, rfl, by decide +kernel, by decide +kernel⟩
abbrev s_unit : Stmt := topS 12
theorem sc_unit : FnScope ["n"] ["n"] (defScope s_unit) := ⟨rfl, rfl, rfl, by decide +kernel, rfl, by decide +kernel, by decide +kernel⟩
abbrev s_diagonal : Stmt := topS 13
theorem sc_diagonal : FnScope ["numbers", "places", "i", "j"] ["numbers"] (defScope s_diagonal) := ⟨rfl, rfl, rfl, by decide +kernel, rfl, by decide +kernel, by decide +kernel⟩
abbrev s_blocks : Stmt := topS 14
theorem sc_blocks : FnScope ["a", "b", "high", "low", "row"] ["a", "b"] (defScope s_blocks) := ⟨rfl, rfl, rfl, by decide +kernel, rfl, by decide +kernel, by decide +kernel⟩
abbrev s_law_state : Stmt := topS 16
theorem sc_law_state : FnScope ["script", "seed", "total", "cell"] ["script"] (defScope s_law_state) := ⟨rfl, rfl, rfl, by decide +kernel, rfl, by decide +kernel, by decide +kernel⟩
abbrev s_law_take : Stmt := topS 17
theorem sc_law_take : FnScope ["state", "m", "value"] ["state", "m"] (defScope s_law_take) := ⟨rfl, rfl, rfl, by decide +kernel, rfl, by decide +kernel, by decide +kernel⟩
abbrev s_law_rows : Stmt := topS 18
theorem sc_law_rows : FnScope ["state", "height", "width", "most", "rows", "i", "k"] ["state", "height", "width", "most"] (defScope s_law_rows) := ⟨rfl, rfl, rfl, by decide +kernel, rfl, by decide +kernel, by decide +kernel⟩
abbrev s_law_product : Stmt := topS 19
theorem sc_law_product : FnScope ["a", "b", "width", "out", "row", "line", "k", "total", "j"] ["a", "b", "width"] (defScope s_law_product) := ⟨rfl, rfl, rfl, by decide +kernel, rfl, by decide +kernel, by decide +kernel⟩
abbrev s_law_is_rows : Stmt := topS 20
theorem sc_law_is_rows : FnScope ["value", "height", "width", "row", "x"] ["value", "height", "width"] (defScope s_law_is_rows) := ⟨rfl, rfl, rfl, by decide +kernel, rfl, by decide +kernel, by decide +kernel⟩
abbrev s_law_malformed : Stmt := topS 21
theorem sc_law_malformed : FnScope ["a", "k", "wide", "count", "turn", "j", "row"] ["a", "k"] (defScope s_law_malformed) := ⟨rfl, rfl, rfl, by decide +kernel, rfl, by decide +kernel, by decide +kernel⟩
abbrev s_law : Stmt := topS 22
theorem sc_law : FnScope ["script", "state", "height", "width", "other", "a", "b", "c", "x", "y", "z", "k", "due", "told", "at", "turned", "row", "line", "both", "i", "p", "q", "j", "given"] ["script"] (defScope s_law) := ⟨rfl, rfl, rfl, by decide +kernel, rfl, by decide +kernel, by decide +kernel⟩
structure Top (K : PySem.W.Frag) (mg : Str → Option Value) where
  a_is_integer : Addr
  a_dot : Addr
  a_Grid_init : Addr
  a_Grid_eq : Addr
  a_Grid_len : Addr
  a_Grid_iter : Addr
  a_Grid_add : Addr
  a_Grid_sub : Addr
  a_Grid_mul : Addr
  a_Grid_neg : Addr
  a_Grid_scaled : Addr
  a_Grid_transposed : Addr
  a_Grid_times : Addr
  a_Grid_before : Addr
  a_Grid_stacked : Addr
  a_Grid_is_square : Addr
  a_checked_rows : Addr
  a_checked_width : Addr
  a_check_same_size : Addr
  a_unit : Addr
  a_diagonal : Addr
  a_blocks : Addr
  a_law_state : Addr
  a_law_take : Addr
  a_law_rows : Addr
  a_law_product : Addr
  a_law_is_rows : Addr
  a_law_malformed : Addr
  a_law : Addr
  d_is_integer : FuncData
  d_dot : FuncData
  d_Grid_init : FuncData
  d_Grid_eq : FuncData
  d_Grid_len : FuncData
  d_Grid_iter : FuncData
  d_Grid_add : FuncData
  d_Grid_sub : FuncData
  d_Grid_mul : FuncData
  d_Grid_neg : FuncData
  d_Grid_scaled : FuncData
  d_Grid_transposed : FuncData
  d_Grid_times : FuncData
  d_Grid_before : FuncData
  d_Grid_stacked : FuncData
  d_Grid_is_square : FuncData
  d_checked_rows : FuncData
  d_checked_width : FuncData
  d_check_same_size : FuncData
  d_unit : FuncData
  d_diagonal : FuncData
  d_blocks : FuncData
  d_law_state : FuncData
  d_law_take : FuncData
  d_law_rows : FuncData
  d_law_product : FuncData
  d_law_is_rows : FuncData
  d_law_malformed : FuncData
  d_law : FuncData
  C_Grid : Addr
  X_Malformed : Addr
  F_is_integer : Fun K "is_integer" "is_integer" s_is_integer a_is_integer d_is_integer
  b_is_integer : Binds K d_is_integer ["value"] []
  g_is_integer : mg "is_integer" = some (.ref a_is_integer)
  F_dot : Fun K "dot" "dot" s_dot a_dot d_dot
  b_dot : Binds K d_dot ["a", "b"] []
  g_dot : mg "dot" = some (.ref a_dot)
  F_Grid_init : FunD K "__init__" "Grid.__init__" (defArgs s_Grid_init) (defBody s_Grid_init) (defScope s_Grid_init) [.non] [] a_Grid_init d_Grid_init
  b_Grid_init : Binds K d_Grid_init ["self", "rows", "width"] []
  F_Grid_eq : Fun K "__eq__" "Grid.__eq__" s_Grid_eq a_Grid_eq d_Grid_eq
  b_Grid_eq : Binds K d_Grid_eq ["self", "other"] []
  m_Grid_eq : Meth K C_Grid "__eq__" a_Grid_eq
  F_Grid_len : Fun K "__len__" "Grid.__len__" s_Grid_len a_Grid_len d_Grid_len
  b_Grid_len : Binds K d_Grid_len ["self"] []
  m_Grid_len : Meth K C_Grid "__len__" a_Grid_len
  F_Grid_iter : Fun K "__iter__" "Grid.__iter__" s_Grid_iter a_Grid_iter d_Grid_iter
  b_Grid_iter : Binds K d_Grid_iter ["self"] []
  m_Grid_iter : Meth K C_Grid "__iter__" a_Grid_iter
  F_Grid_add : Fun K "__add__" "Grid.__add__" s_Grid_add a_Grid_add d_Grid_add
  b_Grid_add : Binds K d_Grid_add ["self", "other"] []
  m_Grid_add : Meth K C_Grid "__add__" a_Grid_add
  F_Grid_sub : Fun K "__sub__" "Grid.__sub__" s_Grid_sub a_Grid_sub d_Grid_sub
  b_Grid_sub : Binds K d_Grid_sub ["self", "other"] []
  m_Grid_sub : Meth K C_Grid "__sub__" a_Grid_sub
  F_Grid_mul : Fun K "__mul__" "Grid.__mul__" s_Grid_mul a_Grid_mul d_Grid_mul
  b_Grid_mul : Binds K d_Grid_mul ["self", "other"] []
  m_Grid_mul : Meth K C_Grid "__mul__" a_Grid_mul
  F_Grid_neg : Fun K "__neg__" "Grid.__neg__" s_Grid_neg a_Grid_neg d_Grid_neg
  b_Grid_neg : Binds K d_Grid_neg ["self"] []
  m_Grid_neg : Meth K C_Grid "__neg__" a_Grid_neg
  F_Grid_scaled : Fun K "scaled" "Grid.scaled" s_Grid_scaled a_Grid_scaled d_Grid_scaled
  b_Grid_scaled : Binds K d_Grid_scaled ["self", "k"] []
  m_Grid_scaled : Meth K C_Grid "scaled" a_Grid_scaled
  F_Grid_transposed : Fun K "transposed" "Grid.transposed" s_Grid_transposed a_Grid_transposed d_Grid_transposed
  b_Grid_transposed : Binds K d_Grid_transposed ["self"] []
  m_Grid_transposed : Meth K C_Grid "transposed" a_Grid_transposed
  F_Grid_times : Fun K "times" "Grid.times" s_Grid_times a_Grid_times d_Grid_times
  b_Grid_times : Binds K d_Grid_times ["self", "row"] []
  m_Grid_times : Meth K C_Grid "times" a_Grid_times
  F_Grid_before : Fun K "before" "Grid.before" s_Grid_before a_Grid_before d_Grid_before
  b_Grid_before : Binds K d_Grid_before ["self", "row"] []
  m_Grid_before : Meth K C_Grid "before" a_Grid_before
  F_Grid_stacked : Fun K "stacked" "Grid.stacked" s_Grid_stacked a_Grid_stacked d_Grid_stacked
  b_Grid_stacked : Binds K d_Grid_stacked ["self", "b"] []
  m_Grid_stacked : Meth K C_Grid "stacked" a_Grid_stacked
  F_Grid_is_square : Fun K "is_square" "Grid.is_square" s_Grid_is_square a_Grid_is_square d_Grid_is_square
  b_Grid_is_square : Binds K d_Grid_is_square ["self"] []
  m_Grid_is_square : Meth K C_Grid "is_square" a_Grid_is_square
  F_checked_rows : Fun K "checked_rows" "checked_rows" s_checked_rows a_checked_rows d_checked_rows
  b_checked_rows : Binds K d_checked_rows ["rows"] []
  g_checked_rows : mg "checked_rows" = some (.ref a_checked_rows)
  F_checked_width : Fun K "checked_width" "checked_width" s_checked_width a_checked_width d_checked_width
  b_checked_width : Binds K d_checked_width ["rows", "width"] []
  g_checked_width : mg "checked_width" = some (.ref a_checked_width)
  F_check_same_size : Fun K "check_same_size" "check_same_size" s_check_same_size a_check_same_size d_check_same_size
  b_check_same_size : Binds K d_check_same_size ["a", "b"] []
  g_check_same_size : mg "check_same_size" = some (.ref a_check_same_size)
  F_unit : Fun K "unit" "unit" s_unit a_unit d_unit
  b_unit : Binds K d_unit ["n"] []
  g_unit : mg "unit" = some (.ref a_unit)
  F_diagonal : Fun K "diagonal" "diagonal" s_diagonal a_diagonal d_diagonal
  b_diagonal : Binds K d_diagonal ["numbers"] []
  g_diagonal : mg "diagonal" = some (.ref a_diagonal)
  F_blocks : Fun K "blocks" "blocks" s_blocks a_blocks d_blocks
  b_blocks : Binds K d_blocks ["a", "b"] []
  g_blocks : mg "blocks" = some (.ref a_blocks)
  F_law_state : Fun K "_law_state" "_law_state" s_law_state a_law_state d_law_state
  b_law_state : Binds K d_law_state ["script"] []
  g_law_state : mg "_law_state" = some (.ref a_law_state)
  F_law_take : Fun K "_law_take" "_law_take" s_law_take a_law_take d_law_take
  b_law_take : Binds K d_law_take ["state", "m"] []
  g_law_take : mg "_law_take" = some (.ref a_law_take)
  F_law_rows : Fun K "_law_rows" "_law_rows" s_law_rows a_law_rows d_law_rows
  b_law_rows : Binds K d_law_rows ["state", "height", "width", "most"] []
  g_law_rows : mg "_law_rows" = some (.ref a_law_rows)
  F_law_product : Fun K "_law_product" "_law_product" s_law_product a_law_product d_law_product
  b_law_product : Binds K d_law_product ["a", "b", "width"] []
  g_law_product : mg "_law_product" = some (.ref a_law_product)
  F_law_is_rows : Fun K "_law_is_rows" "_law_is_rows" s_law_is_rows a_law_is_rows d_law_is_rows
  b_law_is_rows : Binds K d_law_is_rows ["value", "height", "width"] []
  g_law_is_rows : mg "_law_is_rows" = some (.ref a_law_is_rows)
  F_law_malformed : Fun K "_law_malformed" "_law_malformed" s_law_malformed a_law_malformed d_law_malformed
  b_law_malformed : Binds K d_law_malformed ["a", "k"] []
  g_law_malformed : mg "_law_malformed" = some (.ref a_law_malformed)
  F_law : Fun K "law" "law" s_law a_law d_law
  b_law : Binds K d_law ["script"] []
  g_law : mg "law" = some (.ref a_law)
  g_Grid : mg "Grid" = some (.ref C_Grid)
  cl_Grid : Cls K C_Grid
  mk_Grid : Mk K C_Grid a_Grid_init
  n_rows : NoAttr K C_Grid "rows"
  n_width : NoAttr K C_Grid "width"
  sf_Grid : PySem.W.selfFirst K C_Grid = true
  kc_Grid : PySem.W.findIn K (.ref C_Grid) "__class__" = some (some (.builtin "object.__class__"))
  kg_Grid : PySem.W.specialIn K (.builtin "object.__class__") "__get__" = some (some (.builtin "getset_descriptor.__get__"))
  kt_Grid : PySem.W.takesIn K (.builtin "object.__class__") = some true
  km_Grid : PySem.W.mroIn K C_Grid (.type "object") = some true
  ty_Grid : PySem.W.typeIn K (.ref C_Grid) = some (.type "type")
  ic_Grid : PySem.W.isClsIn K C_Grid = true
  ne_Grid : PySem.W.findIn K (.ref C_Grid) "__ne__" = some (some (.builtin "object.__ne__"))
  z_ValueError : mg "ValueError" = none
  z_abs : mg "abs" = none
  z_all : mg "all" = none
  z_bool : mg "bool" = none
  z_int : mg "int" = none
  z_isinstance : mg "isinstance" = none
  z_iter : mg "iter" = none
  z_len : mg "len" = none
  z_list : mg "list" = none
  z_range : mg "range" = none
  z_sum : mg "sum" = none
  z_tuple : mg "tuple" = none
  z_zip : mg "zip" = none
  gX_Malformed : mg "Malformed" = some (.ref X_Malformed)
  xX_Malformed : PySem.W.excIn K X_Malformed [.type "ValueError", .type "Exception", .type "BaseException", .type "object"] "ValueError.__new__" = true
  kX_Malformed : PySem.W.keepIn K (.ref X_Malformed) = true
  bX_Malformed : PySem.W.subIn K (.ref X_Malformed) (.type "BaseException") = some true
  tX_Malformed : PySem.W.typeIn K (.ref X_Malformed) = some (.type "type")
  iX_Malformed : PySem.W.isClsIn K X_Malformed = true
  sX_Malformed : PySem.W.subIn K (.ref X_Malformed) (.ref X_Malformed) = some true
end K01
namespace K01
open PySem PySem.Spec PyProof.Rows L2 Gm
open C8 (Cal Met Mak pe_c pe_mt pe_mt0 pe_mk)
section
variable {P : Program} {w : World} {K : PySem.W.Frag} {mg : Str → Option Value} {base : Heap}
/-! ### is_integer -/
def sp_is_integer : Sp := fun vs H Q _ => ∃ i, vs = [V.int i] ∧ Q (.bl true) H
theorem ok_is_integer (T : Top K mg) : FnOk P w K mg base CX0 1 T.a_is_integer T.d_is_integer ["value"] sp_is_integer := by
  refine T.F_is_integer.ok sc_is_integer (fun vs H Q E h => ?_) (fun cdv A outer s H vs Q E hr h => ?_)
  · obtain ⟨i, rfl, _⟩ := h
    rfl
  · obtain ⟨i, rfl, q⟩ := h
    refine ⟨_, (pss_one (ps_ret (pe_and (pe_callB (isiK K rfl) (by rfl) T.z_isinstance (by decide +kernel) (pa_cons (pv 0) (pa_cons (pe_bltn (v := .ty "int") (by rfl) T.z_int (by decide +kernel) rfl) pa_nil))) (pe_one (pe_not (pe_callB (isiK K rfl) (by rfl) T.z_isinstance (by decide +kernel) (pa_cons (pv 0) (pa_cons (pe_bltn (v := .ty "bool") (by rfl) T.z_bool (by decide +kernel) rfl) pa_nil)))))))), ?_⟩
    refine ⟨_, rfl, .int i, .ty "int", _, _, true, rfl, .ty "int", .base (.int i), kit_ty (by decide +kernel), true, rfl, iteT ?_⟩
    exact ⟨_, rfl, .int i, .ty "bool", _, _, false, rfl, .ty "bool", .base (.int i), kit_ty (by decide +kernel), false, rfl, q⟩
theorem cal_is_integer (T : Top K mg) (hN : base.NoSeer) (hT : P.given.tree = none) : Cal P w K mg base 1 "is_integer" sp_is_integer [] := ⟨⟨_, _, _, [], ok_is_integer T, T.g_is_integer, T.F_is_integer.kp, T.b_is_integer, .nil⟩⟩
/-- all items have fewer than B bits -/
def Bits (B : Nat) (ns : List Int) : Prop := ∀ x ∈ ns, x.natAbs < 2 ^ B
theorem Bits.at {B : Nat} {ns : List Int} {k : Nat} {x : Int} (h : Bits B ns) (e : ns[k]? = some x) : x.natAbs < 2 ^ B := h x (List.mem_of_getElem? e)
/-! ### grids -/
theorem rw_ne : ¬ (("rows" : Str) = "width") := by decide +kernel
def flds (t : V) (w : Nat) : List (Str × V) := putF "width" (.int w) (putF "rows" t [])
theorem flds_rows (t : V) (w : Nat) : (flds t w).lookup ("rows" : Str) = some t := by
  unfold flds
  rw [lookup_putF, if_neg rw_ne, lookup_putF, if_pos rfl]
theorem flds_width (t : V) (w : Nat) : (flds t w).lookup ("width" : Str) = some (.int w) := by
  unfold flds
  rw [lookup_putF, if_pos rfl]
theorem flds_no (t : V) (w : Nat) {m : Str} (h1 : ¬ m = "width") (h2 : ¬ m = "rows") : (flds t w).lookup m = none := by
  unfold flds
  rw [lookup_putF, if_neg h1, lookup_putF, if_neg h2]
  all_goals rfl
/-- a Grid with the rows m, of width w -/
structure IsGrid (K : PySem.W.Frag) (C : Addr) (H : Hp) (v : V) (m : List (List Int)) (w : Nat) : Prop where
  ob : ∃ p dx t, v = .ref p ∧ H p = some (.ins C dx (flds t w)) ∧ TRows K H t m
  wd : ∀ r ∈ m, r.length = w
theorem IsGrid.same {K : PySem.W.Frag} {C : Addr} {H H' : Hp} {v : V} {m : List (List Int)} {w : Nat} (e : Same H H') (h : IsGrid K C H v m w) : IsGrid K C H' v m w :=
  let ⟨p, dx, t, ev, ho, ht⟩ := h.ob
  ⟨⟨p, dx, t, ev, e _ _ ho, ht.same e⟩, h.wd⟩
/-! ### checked_rows -/
theorem seq_ty {K : PySem.W.Frag} {H : Hp} {a : Addr} {xs : List V} (h : Gm.Seq K H a xs) : ∃ n, (n = "list" ∨ n = "tuple") ∧ TyX K H (.ref a) (.type n) := by
  rcases h with h | h
  · refine ⟨"list", .inl rfl, ?_⟩
    rcases h with (h | ⟨o, h⟩) | ⟨o, its, n, h, c, _⟩
    · exact .base (.lst h)
    · exact .base (.frz h)
    · exact .kList h c
  · refine ⟨"tuple", .inr rfl, ?_⟩
    rcases h with (h | ⟨o, h⟩) | ⟨o, its, n, h, c, _⟩
    · exact .base (.tup h)
    · exact .fTuple h
    · exact .kTuple h c
theorem kit_lt {K : PySem.W.Frag} {n : String} (h : n = "list" ∨ n = "tuple") : PySem.W.kitAny K (.type n) [.type "list", .type "tuple"] = some true := by
  rcases h with rfl | rfl
  · exact kitAny_cons (b := true) (kit_ty (by decide +kernel)) (fun e => by cases e) fun _ => rfl
  · exact kitAny_cons (b := false) (kit_ty (by decide +kernel)) (fun _ => kitAny_cons (b := true) (kit_ty (by decide +kernel)) (fun e => by cases e) fun _ => rfl) fun e => by cases e
def sp_checked_rows (K : PySem.W.Frag) : Sp := fun vs H Q _ => ∃ v m, vs = [v] ∧ IRows K H v m ∧ m.length ≤ 1000 ∧ (∀ r ∈ m, r.length ≤ 1000) ∧ ∀ v' H', Same H H' → TRows K H' v' m → Q v' H'
theorem ok_checked_rows (T : Top K mg) (hN : base.NoSeer) (hT : P.given.tree = none) : FnOk P w K mg base CX0 2 T.a_checked_rows T.d_checked_rows ["rows"] (sp_checked_rows K) := by
  refine T.F_checked_rows.ok sc_checked_rows (fun vs H Q E h => ?_) (fun cdv A outer s H vs Q E hr h => ?_)
  · obtain ⟨v, m, rfl, _⟩ := h
    rfl
  · obtain ⟨v, m, rfl, hm, hl, hw, q⟩ := h
    obtain ⟨a, ws, rfl, hs, hp⟩ := id hm
    have lw := Paired.length hp
    refine ⟨_, (pss_cons (ps_if (pt_not (pt_val (pe_callB (isiTK K rfl) (by rfl) T.z_isinstance (by decide +kernel) (pa_cons (pv 0) (pa_cons (pe_tup (pa_cons (pe_bltn (v := .ty "list") (by rfl) T.z_list (by decide +kernel) rfl) (pa_cons (pe_bltn (v := .ty "tuple") (by rfl) T.z_tuple (by decide +kernel) rfl) pa_nil))) pa_nil)))))
      (pss_one ps_never)
      pss_nil)
      (pss_cons (ps_for PassesOwn.never rfl (piS K rfl (pv 0)) (pg_name (i := 1) sc_checked_rows.nd rfl (by first | exact .inl rfl | exact .inr rfl))
      (pss_cons (ps_if (pt_not (pt_val (pe_callB (isiTK K rfl) (by rfl) T.z_isinstance (by decide +kernel) (pa_cons (pv 1) (pa_cons (pe_tup (pa_cons (pe_bltn (v := .ty "list") (by rfl) T.z_list (by decide +kernel) rfl) (pa_cons (pe_bltn (v := .ty "tuple") (by rfl) T.z_tuple (by decide +kernel) rfl) pa_nil))) pa_nil)))))
      (pss_one ps_never)
      pss_nil)
      (pss_one (ps_if (pt_not (pt_val (pe_callB (allK K rfl rfl) (by rfl) T.z_all (by decide +kernel) (pa_cons (pe_lc (own := [("item", 2)]) (g := (gName 2)) (by rfl) sc_checked_rows.nd (piS K rfl (pv 1)) ((by show BlkOk ["rows", "row", "item"] (defScope s_checked_rows) _ _; exact blkOk_by (by decide +kernel))) (fun _ _ _ _ _ => (pg_name (i := 2) sc_checked_rows.nd rfl (by first | exact .inl rfl | exact .inr rfl))) (fun _ _ _ _ _ => pts_nil) (fun _ _ _ _ _ => (pe_c (cal_is_integer T hN hT) hr (by decide) (by rfl) (pa_cons (pv 2) pa_nil)))) pa_nil))))
      (pss_one ps_never)
      pss_nil))))
      (pss_one (ps_ret (pe_callTy (tupK K rfl) (by rfl) T.z_tuple (by decide +kernel) (pa_cons (pe_lc (own := [("row", 1)]) (g := (gName 1)) (by rfl) sc_checked_rows.nd (piS K rfl (pv 0)) ((by show BlkOk ["rows", "row", "item"] (defScope s_checked_rows) _ _; exact blkOk_by (by decide +kernel))) (fun _ _ _ _ _ => (pg_name (i := 1) sc_checked_rows.nd rfl (by first | exact .inl rfl | exact .inr rfl))) (fun _ _ _ _ _ => pts_nil) (fun _ _ _ _ _ => (pe_callTy (tupK K rfl) (by rfl) T.z_tuple (by decide +kernel) (pa_cons (pv 1) pa_nil)))) pa_nil)))))), ?_⟩
    -- if not isinstance(rows, (list, tuple))
    refine ⟨_, rfl, by show 2 ≤ sizeLine; decide, fun p np => ?_⟩
    have s1 : Same H (upd H p (.tup [.ty "list", .ty "tuple"])) := same_upd np
    obtain ⟨n, hn, ty⟩ := seq_ty (hs.same s1)
    refine ⟨.ref a, p, [.ty "list", .ty "tuple"], _, [.type "list", .type "tuple"], true, rfl, upd_same, .cons (.ty _) (.cons (.ty _) .nil), ty, kit_lt hn, true, rfl, ?_⟩
    refine iteF ?_
    -- for row in rows
    refine ⟨_, rfl, a, ws, rfl, hs.same s1, fun J G W hG => ?_⟩
    generalize hH1 : upd H p (.tup [.ty "list", .ty "tuple"]) = H1 at s1 hG
    refine for_it W (fun i σ H2 => ∃ y1 y2, σ = [some (.ref a), y1, y2] ∧ Same H1 H2) ⟨none, none, rfl, Same.refl _⟩ (fun i σ H2 _ ⟨_, _, _, s2⟩ => hG _ fun b _ o => s2 b o) ?_ ?_
    · rintro i x σ H2 H2' hi ⟨y1, y2, rfl, s2⟩ ⟨rfl, ex⟩
      obtain ⟨r, er, b, rfl, hb⟩ := Paired.getR hp ex
      have hrm : r ∈ m := List.mem_of_getElem? er
      -- if not isinstance(row, (list, tuple))
      refine ⟨_, rfl, by show 2 ≤ sizeLine; decide, fun p2 np2 => ?_⟩
      have s3 : Same H2' (upd H2' p2 (.tup [.ty "list", .ty "tuple"])) := same_upd np2
      have hb3 := hb.same (s1.trans (s2.trans s3))
      obtain ⟨n2, hn2, ty2⟩ := seq_ty hb3
      refine ⟨.ref b, p2, [.ty "list", .ty "tuple"], _, [.type "list", .type "tuple"], true, rfl, upd_same, .cons (.ty _) (.cons (.ty _) .nil), ty2, kit_lt hn2, true, rfl, ?_⟩
      refine iteF ?_
      -- if not all([is_integer(item) for item in row])
      refine ⟨_, rfl, b, _, rfl, hb3, fun J2 G2 W2 hG2 D hD => ?_⟩
      refine lc_all W2 hD (by rw [List.length_map]; exact hw _ hrm) (fun H4 s4 => hG2 H4 fun b _ o => s4 b o) (fun _ v _ => v = .bl true) (fun _ _ _ _ _ _ _ h => h) ?_ gm_name ?_
      · rintro j y H4 H4' acc Ko hj s4 eD ⟨rfl, ey⟩ k
        obtain ⟨z, ez, rfl⟩ := ints_get ey
        refine ⟨rfl, ?_⟩
        exact ⟨_, rfl, z, rfl, k _ _ (Same.refl _) rfl⟩
      · intro H4 l s4 eD hl2
        refine ⟨D, List.replicate l.length true, rfl, .inl (.inl (by rw [← paired_true hl2]; exact eD)), true, by rw [all_true], ?_⟩
        refine iteF ?_
        exact ⟨_, _, rfl, s2.trans (s3.trans s4)⟩
    · rintro σ H2 ⟨y1, y2, rfl, s2⟩
      have sm := s1.trans s2
      -- return tuple([tuple(row) for row in rows])
      refine ⟨_, rfl, a, ws, rfl, hs.same sm, fun J2 G2 W2 hG2 D hD => ?_⟩
      refine lc_all W2 hD (by omega) (fun H4 s4 => hG2 H4 fun b _ o => s4 b o) (fun i v H4 => ∃ r, m[i]? = some r ∧ TRow K H4 v r) (fun i v H4 H5 acc e o ⟨r, er, h⟩ => ⟨r, er, TRow.off e o h⟩) ?_ gm_name ?_
      · rintro i x H4 H4' acc Ko hi s4 eD ⟨rfl, ex⟩ k
        obtain ⟨r, er, b, rfl, hb⟩ := Paired.getR hp ex
        refine ⟨rfl, ?_⟩
        refine ⟨_, rfl, b, r.map V.int, rfl, ?_⟩
        rcases hb.same (sm.trans s4) with hb' | hb'
        · refine .inl ⟨hb', fun t nt => ?_⟩
          exact k _ _ (same_upd nt) ⟨r, er, t, rfl, .inl (.inl upd_same)⟩
        · refine .inr ⟨hb', ?_⟩
          exact k _ _ (Same.refl _) ⟨r, er, b, rfl, hb'⟩
      · intro H4 l s4 eD hpl
        refine ⟨D, l, rfl, .inl ⟨.inl (.inl eD), fun t nt => ?_⟩⟩
        refine q _ _ (sm.trans (s4.trans (same_upd nt))) ⟨t, l, rfl, .inl (.inl upd_same), ?_⟩
        exact L2.Paired.mapP (paired_at (m := m) (by omega) hpl) fun _ _ => TRow.same (same_upd nt)
theorem cal_checked_rows (T : Top K mg) (hN : base.NoSeer) (hT : P.given.tree = none) : Cal P w K mg base 2 "checked_rows" (sp_checked_rows K) [] := ⟨⟨_, _, _, [], ok_checked_rows T hN hT, T.g_checked_rows, T.F_checked_rows.kp, T.b_checked_rows, .nil⟩⟩
/-! ### checked_width -/
def sp_checked_width (K : PySem.W.Frag) : Sp := fun vs H Q _ => ∃ (v : V) (m : List (List Int)) (w : Nat), vs = [v, .int w] ∧ TRows K H v m ∧ m.length ≤ 1000 ∧ (∀ r ∈ m, r.length = w) ∧ ∀ H', Same H H' → Q (.int w) H'
theorem ok_checked_width (T : Top K mg) (hN : base.NoSeer) (hT : P.given.tree = none) : FnOk P w K mg base CX0 2 T.a_checked_width T.d_checked_width ["rows", "width"] (sp_checked_width K) := by
  refine T.F_checked_width.ok sc_checked_width (fun vs H Q E h => ?_) (fun cdv A outer s H vs Q E hr h => ?_)
  · obtain ⟨v, m, w, rfl, _⟩ := h
    rfl
  · obtain ⟨v, m, w, rfl, hm, hl, hw, q⟩ := h
    obtain ⟨a, ws, rfl, hs, hp⟩ := id hm
    have lw := Paired.length hp
    refine ⟨_, (pss_cons (ps_if (pt_cmpR op_isN (pv 1) pe_non (nomark _))
      (pss_one (ps_set (i := 1) sc_checked_width.nd rfl (by first | exact .inl rfl | exact .inr rfl) (pe_ifExp (pt_cmpR op_gt (pe_callB (lenS K rfl) (by rfl) T.z_len (by decide +kernel) (pa_cons (pv 0) pa_nil)) pe_int (nomark _)) (pe_callB (lenS K rfl) (by rfl) T.z_len (by decide +kernel) (pa_cons (pe_ix (ixT K rfl) (pv 0) pe_int (fun _ _ => rfl)) pa_nil)) pe_int)))
      pss_nil)
      (pss_cons (ps_if (PW.pt (pw_or (pt_not (pt_val (pe_c (cal_is_integer T hN hT) hr (by decide) (by rfl) (pa_cons (pv 1) pa_nil)))) (pw_or1 (pt_cmpR op_lt (pv 1) pe_int (nomark _)))))
      (pss_one ps_never)
      pss_nil)
      (pss_cons (ps_if (pt_not (pt_val (pe_callB (allK K rfl rfl) (by rfl) T.z_all (by decide +kernel) (pa_cons (pe_lc (own := [("row", 2)]) (g := (gName 2)) (by rfl) sc_checked_width.nd (piS K rfl (pv 0)) ((by show BlkOk ["rows", "width", "row"] (defScope s_checked_width) _ _; exact blkOk_by (by decide +kernel))) (fun _ _ _ _ _ => (pg_name (i := 2) sc_checked_width.nd rfl (by first | exact .inl rfl | exact .inr rfl))) (fun _ _ _ _ _ => pts_nil) (fun _ _ _ _ _ => (pe_cmpR op_eq (pe_callB (lenS K rfl) (by rfl) T.z_len (by decide +kernel) (pa_cons (pv 2) pa_nil)) (pv 1) (nomark _)))) pa_nil))))
      (pss_one ps_never)
      pss_nil)
      (pss_one (ps_ret (pv 1)))))), ?_⟩
    -- if width is None
    refine ⟨_, rfl, rfl, _, rfl, ?_⟩
    rw [show decide (V.int (w : Int) = V.non) = false from decide_eq_false fun z => by cases z]
    refine iteF ?_
    -- if not is_integer(width) or width < 0
    refine ⟨_, rfl, _, rfl, true, rfl, iteF ⟨_, rfl, _, _, rfl, rfl, _, rfl, ?_⟩⟩
    rw [decide_eq_false (by omega)]
    refine iteF ?_
    -- if not all([len(row) == width for row in rows])
    refine ⟨_, rfl, a, ws, rfl, .inr hs, fun J2 G2 W2 hG2 D hD => ?_⟩
    refine lc_all W2 hD (by omega) (fun H4 s4 => hG2 H4 fun b _ o => s4 b o) (fun _ v _ => v = .bl true) (fun _ _ _ _ _ _ _ h => h) ?_ gm_name ?_
    · rintro i x H4 H4' acc Ko hi s4 eD ⟨rfl, ex⟩ k
      obtain ⟨r, er, b, rfl, hb⟩ := Paired.getR hp ex
      refine ⟨rfl, ?_⟩
      refine ⟨_, rfl, b, _, rfl, .inr (Same.seqT s4 hb), _, rfl, rfl, ?_⟩
      rw [List.length_map, hw r (List.mem_of_getElem? er), decide_eq_true rfl]
      exact k _ _ (Same.refl _) rfl
    · intro H4 l s4 eD hl2
      refine ⟨D, List.replicate l.length true, rfl, .inl (.inl (by rw [← paired_true hl2]; exact eD)), true, by rw [all_true], ?_⟩
      refine iteF ?_
      exact ⟨_, rfl, q _ s4⟩
theorem cal_checked_width (T : Top K mg) (hN : base.NoSeer) (hT : P.given.tree = none) : Cal P w K mg base 2 "checked_width" (sp_checked_width K) [] := ⟨⟨_, _, _, [], ok_checked_width T hN hT, T.g_checked_width, T.F_checked_width.kp, T.b_checked_width, .nil⟩⟩
/-! ### Grid.__init__ -/
def sp_Grid_init (K : PySem.W.Frag) (C : Addr) : Sp := fun vs H Q _ => ∃ (p dx : Addr) (v : V) (m : List (List Int)) (w : Nat), vs = [.ref p, v, .int w] ∧ H p = some (.ins C dx []) ∧ IRows K H v m ∧ m.length ≤ 1000 ∧ w ≤ 1000 ∧ (∀ r ∈ m, r.length = w) ∧
  ∀ t H', Off p H H' → H' p = some (.ins C dx (flds t w)) → TRows K H' t m → Q .non H'
theorem trows_off {K : PySem.W.Frag} {H H' : Hp} {p C dx : Addr} {fs : List (Str × V)} {t : V} {m : List (List Int)} (e : H p = some (.ins C dx fs)) (o : Off p H H') (h : TRows K H t m) : TRows K H' t m := by
  have f : ∀ {a : Addr} {xs : List V}, SqT K H a xs → SqT K H' a xs := fun {a xs} h => by
    rcases h with (h | ⟨u, h⟩) | h
    · exact .inl (.inl (o _ _ (ne_of h e (by intro z; cases z)) h))
    · exact .inl (.inr ⟨u, o _ _ (ne_of h e (by intro z; cases z)) h⟩)
    · exact .inr h
  obtain ⟨a, vs, rfl, hs, hp⟩ := h
  exact ⟨a, vs, rfl, f hs, L2.Paired.mapP hp fun v r ⟨b, e, h⟩ => ⟨b, e, f h⟩⟩
theorem ok_Grid_init (T : Top K mg) (hN : base.NoSeer) (hT : P.given.tree = none) : FnOk P w K mg base CX0 3 T.a_Grid_init T.d_Grid_init ["self", "rows", "width"] (sp_Grid_init K T.C_Grid) := by
  refine T.F_Grid_init.ok sc_Grid_init (fun vs H Q E h => ?_) (fun cdv A outer s H vs Q E hr h => ?_)
  · obtain ⟨p, dx, v, m, w, rfl, _⟩ := h
    rfl
  · obtain ⟨p, dx, v, m, w, rfl, hp, hm, hl, hw, hrw, q⟩ := h
    refine ⟨_, PSs.nox (pss_cons (ps_fld (pv 0) (pe_c (cal_checked_rows T hN hT) hr (by decide) (by rfl) (pa_cons (pv 1) pa_nil)) rfl)
      (pss_one (ps_fld (pv 0) (pe_c (cal_checked_width T hN hT) hr (by decide) (by rfl) (pa_cons (fldK K rfl (pv 0) rfl) (pa_cons (pv 2) pa_nil))) rfl))), ?_⟩
    refine ⟨_, rfl, v, m, rfl, hm, hl, fun r hr => by rw [hrw r hr]; exact hw, fun t H1 s1 ht => ?_⟩
    have hp1 := s1 _ _ hp
    refine ⟨_, rfl, p, T.C_Grid, dx, [], rfl, hp1, T.cl_Grid, T.n_rows, by show 0 < 1000; decide, ?_⟩
    refine ⟨_, rfl, p, T.C_Grid, dx, _, t, rfl, upd_same, T.cl_Grid, T.n_rows, ?_, ?_⟩
    · rw [lookup_putF, if_pos rfl]
    have ht2 : TRows K (upd H1 p (.ins T.C_Grid dx (putF "rows" t []))) t m := trows_off hp1 Off.upd ht
    refine ⟨_, rfl, t, m, w, rfl, ht2, hl, hrw, fun H2 s2 => ?_⟩
    have hp2 := s2 _ _ upd_same
    refine ⟨_, rfl, p, T.C_Grid, dx, _, rfl, hp2, T.cl_Grid, T.n_width, by show 1 < 1000; decide, ?_⟩
    refine q t _ (fun b o n e => ?_) upd_same (trows_off hp2 Off.upd (ht2.same s2))
    rw [upd_ne n]
    exact s2 _ _ (Off.upd _ _ n (s1 _ _ e))
theorem mak_Grid (T : Top K mg) (hN : base.NoSeer) (hT : P.given.tree = none) : Mak P w K mg base 3 "Grid" T.C_Grid (sp_Grid_init K T.C_Grid) [] := ⟨⟨_, _, _, [], T.mk_Grid, ok_Grid_init T hN hT, T.g_Grid, T.b_Grid_init, .nil⟩⟩
/-- what a call Grid(rows, width) asks and gives -/
theorem make_grid {K : PySem.W.Frag} {C : Addr} {H1 : Hp} {v : V} {m : List (List Int)} {w : Nat} {Q : VK} {E : XK} (hm : IRows K H1 v m) (hl : m.length ≤ 1000) (hw : w ≤ 1000) (hrw : ∀ r ∈ m, r.length = w) (q : ∀ g H', Same H1 H' → IsGrid K C H' g m w → Q g H') :
    ∀ x dx, H1 x = none → H1 dx = none → dx ≠ x → sp_Grid_init K C (.ref x :: ([v, .int w] ++ [])) (upd (upd H1 dx (.own x)) x (.ins C dx [])) (fun v H2 => v = .non ∧ Q (.ref x) H2) E := fun x dx nx nd ne => by
  have s0 : Same H1 (upd (upd H1 dx (.own x)) x (.ins C dx [])) := fun b o e => by
    rw [upd_ne (ne_of_none e nx), upd_ne (ne_of_none e nd)]
    exact e
  refine ⟨x, dx, v, m, w, rfl, upd_same, hm.same s0, hl, hw, hrw, fun t H' o ho ht => ⟨rfl, ?_⟩⟩
  exact q _ _ (fun b u e => o _ _ (ne_of_none e nx) (s0 _ _ e)) ⟨⟨x, dx, t, rfl, ho, ht⟩, hrw⟩

/-! ### dot -/
def dotI (xs ys : List Int) : Int := (List.zipWith (· * ·) xs ys).sum
def sp_dot (K : PySem.W.Frag) : Sp := fun vs H Q _ => ∃ v1 v2 xs ys B1 B2, vs = [v1, v2] ∧ TRow K H v1 xs ∧ TRow K H v2 ys ∧ xs.length = ys.length ∧ xs.length ≤ 1000 ∧ Bits B1 xs ∧ Bits B2 ys ∧ B1 + B2 ≤ 134217728 ∧ ∀ H', Same H H' → Q (.int (dotI xs ys)) H'
theorem ok_dot (T : Top K mg) (hN : base.NoSeer) (hT : P.given.tree = none) : FnOk P w K mg base CX0 1 T.a_dot T.d_dot ["a", "b"] (sp_dot K) := by
  refine T.F_dot.ok sc_dot (fun vs H Q E h => ?_) (fun cdv A outer s H vs Q E hr h => ?_)
  · obtain ⟨v1, v2, xs, ys, B1, B2, rfl, _⟩ := h
    rfl
  · obtain ⟨v1, v2, xs, ys, B1, B2, rfl, ⟨a, rfl, hx⟩, ⟨b, rfl, hy⟩, hl, hl2, bx, by', hB, q⟩ := h
    refine ⟨_, (pss_one (ps_ret (pe_callB (sumK K rfl rfl) (by rfl) T.z_sum (by decide +kernel) (pa_cons (pe_lc (own := [("x", 2), ("y", 3)]) (g := (gTup K 2 (gCons (gName 2) (gCons (gName 3) gNil)))) (by rfl) sc_dot.nd (RZ.pi_zipA (by rfl) T.z_zip (pa_cons (pv 0) (pa_cons (pv 1) pa_nil))) ((by show BlkOk ["a", "b", "x", "y"] (defScope s_dot) _ _; exact blkOk_by (by decide +kernel))) (fun _ _ _ _ _ => (pg_tup rfl (pgs_cons (pg_name (i := 2) sc_dot.nd rfl (by first | exact .inl rfl | exact .inr rfl)) (pgs_cons (pg_name (i := 3) sc_dot.nd rfl (by first | exact .inl rfl | exact .inr rfl)) pgs_nil)))) (fun _ _ _ _ _ => pts_nil) (fun _ _ _ _ _ => (pe_op op_mulX (pv 2) (pv 3)))) pa_nil)))), ?_⟩
    refine ⟨_, rfl, _, rfl, a, b, _, _, rfl, .inr ⟨hx, hy, fun D hD => ?_⟩⟩
    have W : Walk (RZ.ItzT K a b) xs.length (fun H => SqT K H a (xs.map V.int) ∧ SqT K H b (ys.map V.int)) (YPair (fun i => (xs.map V.int)[i]?) (fun i => (ys.map V.int)[i]?)) := walk_zipT (by rw [List.length_map, List.length_map, hl, Nat.min_self])
    refine lc_all W hD hl2 (fun H4 s4 => ⟨Same.seqT s4 hx, Same.seqT s4 hy⟩) (fun i v _ => ∃ z, (List.zipWith (· * ·) xs ys)[i]? = some z ∧ v = .int z) (fun _ _ _ _ _ _ _ h => h) ?_ gm_pair ?_
    · rintro i x H4 H4' acc Ko hi s4 eD ⟨U, x1, x2, rfl, nU, rfl, e1, e2⟩ k
      obtain ⟨z1, ez1, rfl⟩ := ints_get e1
      obtain ⟨z2, ez2, rfl⟩ := ints_get e2
      refine g_pair nU ⟨rfl, ?_⟩
      refine ⟨_, rfl, _, rfl, z1, z2, rfl, rfl, mulx_ok (bx.at ez1) (by'.at ez2) hB, ?_⟩
      refine k _ _ (same_upd nU) ⟨z1 * z2, ?_, rfl⟩
      rw [List.getElem?_zipWith, ez1, ez2]
    · intro H4 l s4 eD hpl
      have el := ints_list (by rw [List.length_zipWith, hl, Nat.min_self]) hpl
      refine ⟨D, List.zipWith (· * ·) xs ys, rfl, .inl (.inl (by rw [← el]; exact eD)), ?_⟩
      exact q _ s4
theorem cal_dot (T : Top K mg) (hN : base.NoSeer) (hT : P.given.tree = none) : Cal P w K mg base 1 "dot" (sp_dot K) [] := ⟨⟨_, _, _, [], ok_dot T hN hT, T.g_dot, T.F_dot.kp, T.b_dot, .nil⟩⟩
/-! ### the simple methods -/
def sp_Grid_len (K : PySem.W.Frag) (C : Addr) : Sp := fun vs H Q _ => ∃ v m w, vs = [v] ∧ IsGrid K C H v m w ∧ Q (.int m.length) H
theorem ok_Grid_len (T : Top K mg) (hN : base.NoSeer) (hT : P.given.tree = none) : FnOk P w K mg base CX0 1 T.a_Grid_len T.d_Grid_len ["self"] (sp_Grid_len K T.C_Grid) := by
  refine T.F_Grid_len.ok sc_Grid_len (fun vs H Q E h => ?_) (fun cdv A outer s H vs Q E hr h => ?_)
  · obtain ⟨v, m, w, rfl, _⟩ := h
    rfl
  · obtain ⟨v, m, w, rfl, ⟨⟨p, dx, t, rfl, ho, a, ws, rfl, hs, hp⟩, hw⟩, q⟩ := h
    refine ⟨_, (pss_one (ps_ret (pe_callB (lenS K rfl) (by rfl) T.z_len (by decide +kernel) (pa_cons (fldK K rfl (pv 0) rfl) pa_nil)))), ?_⟩
    refine ⟨_, rfl, p, T.C_Grid, dx, _, _, rfl, ho, T.cl_Grid, T.n_rows, flds_rows _ _, a, ws, rfl, .inr hs, ?_⟩
    rw [Paired.length hp]
    exact q
theorem met_Grid_len (T : Top K mg) (hN : base.NoSeer) (hT : P.given.tree = none) : Met P w K mg base 1 T.C_Grid "__len__" (sp_Grid_len K T.C_Grid) [] := ⟨⟨_, _, _, [], T.cl_Grid, T.m_Grid_len, ok_Grid_len T hN hT, T.b_Grid_len, .nil⟩⟩
def sp_Grid_is_square (K : PySem.W.Frag) (C : Addr) : Sp := fun vs H Q _ => ∃ v m w, vs = [v] ∧ IsGrid K C H v m w ∧ Q (.bl (decide (m.length = w))) H
theorem ok_Grid_is_square (T : Top K mg) (hN : base.NoSeer) (hT : P.given.tree = none) : FnOk P w K mg base CX0 1 T.a_Grid_is_square T.d_Grid_is_square ["self"] (sp_Grid_is_square K T.C_Grid) := by
  refine T.F_Grid_is_square.ok sc_Grid_is_square (fun vs H Q E h => ?_) (fun cdv A outer s H vs Q E hr h => ?_)
  · obtain ⟨v, m, w, rfl, _⟩ := h
    rfl
  · obtain ⟨v, m, w, rfl, ⟨⟨p, dx, t, rfl, ho, a, ws, rfl, hs, hp⟩, hw⟩, q⟩ := h
    refine ⟨_, (pss_one (ps_ret (pe_cmpR op_eq (pe_callB (lenS K rfl) (by rfl) T.z_len (by decide +kernel) (pa_cons (fldK K rfl (pv 0) rfl) pa_nil)) (fldK K rfl (pv 0) rfl) (nomark _)))), ?_⟩
    refine ⟨_, rfl, p, T.C_Grid, dx, _, _, rfl, ho, T.cl_Grid, T.n_rows, flds_rows _ _, a, ws, rfl, .inr hs, _, rfl, p, T.C_Grid, dx, _, _, rfl, ho, T.cl_Grid, T.n_width, flds_width _ _, rfl, ?_⟩
    have e : decide (V.int (ws.length : Int) = V.int (w : Int)) = decide (m.length = w) := by
      rw [Paired.length hp]
      by_cases h : m.length = w
      · rw [decide_eq_true h, decide_eq_true (by rw [h])]
      · rw [decide_eq_false h, decide_eq_false (fun z => h (by have := V.int.inj z; omega))]
    show Q (.bl (decide (V.int (ws.length : Int) = V.int (w : Int)))) H
    rw [e]
    exact q
theorem met_Grid_is_square (T : Top K mg) (hN : base.NoSeer) (hT : P.given.tree = none) : Met P w K mg base 1 T.C_Grid "is_square" (sp_Grid_is_square K T.C_Grid) [] := ⟨⟨_, _, _, [], T.cl_Grid, T.m_Grid_is_square, ok_Grid_is_square T hN hT, T.b_Grid_is_square, .nil⟩⟩
theorem m_is_square (t : V) (w : Nat) : (flds t w).lookup ("is_square" : Str) = none := flds_no t w (by decide +kernel) (by decide +kernel)
theorem m_transposed (t : V) (w : Nat) : (flds t w).lookup ("transposed" : Str) = none := flds_no t w (by decide +kernel) (by decide +kernel)
theorem m_determinant (t : V) (w : Nat) : (flds t w).lookup ("determinant" : Str) = none := flds_no t w (by decide +kernel) (by decide +kernel)
theorem m_adjugate (t : V) (w : Nat) : (flds t w).lookup ("adjugate" : Str) = none := flds_no t w (by decide +kernel) (by decide +kernel)
theorem m_is_unimodular (t : V) (w : Nat) : (flds t w).lookup ("is_unimodular" : Str) = none := flds_no t w (by decide +kernel) (by decide +kernel)

end
end K01
namespace K01
open PySem PySem.Spec PyProof.Rows L2 Gm
open C8 (Cal Met Mak pe_c pe_mt pe_mt0 pe_mk)
section
variable {P : Program} {w : World} {K : PySem.W.Frag} {mg : Str → Option Value} {base : Heap}
/-! ### transposed -/
def transp (m : List (List Int)) (w : Nat) : List (List Int) := (List.range w).map fun k => m.map fun r => r.getD k 0
theorem transp_len (m : List (List Int)) (w : Nat) : (transp m w).length = w := by
  unfold transp
  rw [List.length_map, List.length_range]
theorem transp_row {m : List (List Int)} {w : Nat} : ∀ r ∈ transp m w, r.length = m.length := fun r hr => by
  obtain ⟨k, _, rfl⟩ := List.mem_map.mp hr
  rw [List.length_map]
theorem transp_get {m : List (List Int)} {w k : Nat} (h : k < w) : (transp m w).getD k [] = m.map fun r => r.getD k 0 := by
  unfold transp
  rw [List.getD_eq_getElem?_getD, List.getElem?_map, List.getElem?_range h]
  rfl
def sp_Grid_transposed (K : PySem.W.Frag) (C : Addr) : Sp := fun vs H Q _ => ∃ v m w, vs = [v] ∧ IsGrid K C H v m w ∧ m.length ≤ 1000 ∧ w ≤ 1000 ∧ ∀ g H', Same H H' → IsGrid K C H' g (transp m w) m.length → Q g H'
theorem ok_Grid_transposed (T : Top K mg) (hN : base.NoSeer) (hT : P.given.tree = none) : FnOk P w K mg base CX0 5 T.a_Grid_transposed T.d_Grid_transposed ["self"] (sp_Grid_transposed K T.C_Grid) := by
  refine T.F_Grid_transposed.ok sc_Grid_transposed (fun vs H Q E h => ?_) (fun cdv A outer s H vs Q E hr h => ?_)
  · obtain ⟨v, m, w, rfl, _⟩ := h
    rfl
  · obtain ⟨v, m, n, rfl, G, hl, hw, q⟩ := h
    obtain ⟨⟨p, dx, t, rfl, ho, a, ws, rfl, hs, hp⟩, hrw⟩ := id G
    have lw := Paired.length hp
    refine ⟨_, (pss_cons (ps_set (i := 1) sc_Grid_transposed.nd rfl (by first | exact .inl rfl | exact .inr rfl) (pe_callTy (cr_range1) (by rfl) T.z_range (by decide +kernel) (pa_cons (fldK K rfl (pv 0) rfl) pa_nil)))
      (pss_one (ps_ret (pe_mk (mak_Grid T hN hT) hr (by decide) (by rfl) (pa_cons (pe_lc (own := [("k", 2)]) (g := (gName 2)) (by rfl) sc_Grid_transposed.nd (pi_rngv (pv 1)) ((by show BlkOk ["self", "places", "k", "row"] (defScope s_Grid_transposed) _ _; exact blkOk_by (by decide +kernel))) (fun _ _ _ _ _ => (pg_name (i := 2) sc_Grid_transposed.nd rfl (by first | exact .inl rfl | exact .inr rfl))) (fun _ _ _ _ _ => pts_nil) (fun _ _ _ _ _ => (pe_lc (own := [("row", 3)]) (g := (gName 3)) (by rfl) sc_Grid_transposed.nd (piS K rfl (fldK K rfl (pv 0) rfl)) ((by show BlkOk ["self", "places", "k", "row"] (relS _ (defScope s_Grid_transposed)) _ _; exact blkOk_by (by decide +kernel))) (fun _ _ _ _ _ => (pg_name (i := 3) sc_Grid_transposed.nd rfl (by first | exact .inl rfl | exact .inr rfl))) (fun _ _ _ _ _ => pts_nil) (fun _ _ _ _ _ => (pe_ix (ixT K rfl) (pv 3) (pv 2) (fun _ _ => rfl)))))) (pa_cons (pe_callB (lenS K rfl) (by rfl) T.z_len (by decide +kernel) (pa_cons (fldK K rfl (pv 0) rfl) pa_nil)) pa_nil)))))), ?_⟩
    -- places = range(self.width)
    refine ⟨_, rfl, p, T.C_Grid, dx, _, _, rfl, ho, T.cl_Grid, T.n_width, flds_width _ _, _, rfl, fun pr npr => ?_⟩
    have s1 : Same H (upd H pr (.rng 0 (n : Int))) := same_upd npr
    -- the outer comprehension
    refine ⟨_, rfl, pr, _, _, rfl, upd_same, ⟨by decide, by decide, by omega, by omega⟩, fun D hD => ?_⟩
    refine lc_all walk_range hD (by omega) (fun _ _ => trivial) (fun i v H4 => ∃ p, v = V.ref p ∧ p ≠ D ∧ H4 p = some (.lst (((transp m n).getD i []).map V.int))) lists_mono ?_ gm_name ?_
    · rintro i x H4 H4' acc Ko hi s4 eD ⟨rfl, rfl⟩ k
      have hi' : i < n := by omega
      refine ⟨rfl, ?_⟩
      -- the inner one
      have sm := s1.trans s4
      have ho4 := sm _ _ ho
      have hs4 := Same.seqT sm hs
      refine ⟨_, rfl, p, T.C_Grid, dx, _, _, rfl, ho4, T.cl_Grid, T.n_rows, flds_rows _ _, a, ws, rfl, .inr hs4, fun J2 G2 W2 hG2 D2 hD2 => ?_⟩
      refine lc_all W2 hD2 (by omega) (fun H5 s5 => hG2 H5 fun b _ o => s5 b o) (fun j v _ => ∃ z, ((transp m n).getD i [])[j]? = some z ∧ v = .int z) (fun _ _ _ _ _ _ _ h => h) ?_ gm_name ?_
      · rintro j y H5 H5' acc2 Ko2 hj s5 eD2 ⟨rfl, ey⟩ k2
        obtain ⟨r, er, b, rfl, hb⟩ := Paired.getR hp ey
        have hrl := hrw r (List.mem_of_getElem? er)
        refine ⟨rfl, ?_⟩
        refine ⟨_, rfl, _, rfl, b, _, _, _, rfl, rfl, Same.seqT (sm.trans s5) hb, at_of (j := i) (by omega) (ints_at (List.getElem?_eq_getElem (by omega))), ?_⟩
        refine k2 _ _ (Same.refl _) ⟨_, ?_, rfl⟩
        rw [transp_get hi', List.getElem?_map, er]
        show some (r.getD i 0) = some r[i]
        rw [List.getD_eq_getElem?_getD, List.getElem?_eq_getElem (by omega)]
        rfl
      · intro H5 l s5 eD2 hpl
        have el := ints_list (by rw [transp_get hi', List.length_map, lw]) hpl
        refine k _ _ s5 ⟨D2, rfl, ?_, by rw [← el]; exact eD2⟩
        rintro rfl
        rw [eD] at hD2
        cases hD2
    · intro H4 l s4 eD hpl
      have hrows := lists_rows (K := K) (m := transp m n) (by rw [transp_len]; omega) eD hpl
      have sm := s1.trans s4
      refine ⟨_, rfl, p, T.C_Grid, dx, _, _, rfl, sm _ _ ho, T.cl_Grid, T.n_rows, flds_rows _ _, a, ws, rfl, .inr (Same.seqT sm hs), ?_⟩
      rw [lw]
      exact make_grid hrows (by rw [transp_len]; exact hw) hl transp_row fun g H' s' G' => q g H' (sm.trans s') G'
theorem met_Grid_transposed (T : Top K mg) (hN : base.NoSeer) (hT : P.given.tree = none) : Met P w K mg base 5 T.C_Grid "transposed" (sp_Grid_transposed K T.C_Grid) [] := ⟨⟨_, _, _, [], T.cl_Grid, T.m_Grid_transposed, ok_Grid_transposed T hN hT, T.b_Grid_transposed, .nil⟩⟩
/-! ### a * b -/
def mulM (m1 m2 : List (List Int)) (w : Nat) : List (List Int) := m1.map fun r => (transp m2 w).map fun c => dotI r c
theorem mulM_len (m1 m2 : List (List Int)) (w : Nat) : (mulM m1 m2 w).length = m1.length := List.length_map ..
theorem mulM_row {m1 m2 : List (List Int)} {w : Nat} : ∀ r ∈ mulM m1 m2 w, r.length = w := fun r hr => by
  obtain ⟨k, _, rfl⟩ := List.mem_map.mp hr
  rw [List.length_map, transp_len]
theorem transp_bits {m : List (List Int)} {w B : Nat} (hw : ∀ r ∈ m, r.length = w) (hb : ∀ r ∈ m, Bits B r) : ∀ r ∈ transp m w, Bits B r := fun r hr x hx => by
  obtain ⟨k, hk, rfl⟩ := List.mem_map.mp hr
  obtain ⟨r', hr', rfl⟩ := List.mem_map.mp hx
  have hk' : k < r'.length := by rw [hw r' hr']; exact List.mem_range.mp hk
  rw [List.getD_eq_getElem?_getD, List.getElem?_eq_getElem hk']
  exact hb r' hr' _ (List.getElem_mem _)
def sp_Grid_mul (K : PySem.W.Frag) (C : Addr) : Sp := fun vs H Q _ => ∃ v1 m1 w1 v2 m2 w2 B1 B2, vs = [v1, v2] ∧ IsGrid K C H v1 m1 w1 ∧ IsGrid K C H v2 m2 w2 ∧ w1 = m2.length ∧ m1.length ≤ 1000 ∧ m2.length ≤ 1000 ∧ w2 ≤ 1000 ∧
  (∀ r ∈ m1, Bits B1 r) ∧ (∀ r ∈ m2, Bits B2 r) ∧ B1 + B2 ≤ 134217728 ∧ ∀ g H', Same H H' → IsGrid K C H' g (mulM m1 m2 w2) w2 → Q g H'
theorem ok_Grid_mul (T : Top K mg) (hN : base.NoSeer) (hT : P.given.tree = none) : FnOk P w K mg base CX0 6 T.a_Grid_mul T.d_Grid_mul ["self", "other"] (sp_Grid_mul K T.C_Grid) := by
  refine T.F_Grid_mul.ok sc_Grid_mul (fun vs H Q E h => ?_) (fun cdv A outer s H vs Q E hr h => ?_)
  · obtain ⟨v1, m1, w1, v2, m2, w2, B1, B2, rfl, _⟩ := h
    rfl
  · obtain ⟨v1, m1, w1, v2, m2, w2, B1, B2, rfl, G1, G2, hw, h1, h2, h3, b1, b2, hB, q⟩ := h
    obtain ⟨⟨p1, dx1, t1, rfl, ho1, a1, ws1, rfl, hs1, hp1⟩, hrw1⟩ := id G1
    obtain ⟨⟨p2, dx2, t2, rfl, ho2, a2, ws2, rfl, hs2, hp2⟩, hrw2⟩ := id G2
    have lw1 := Paired.length hp1
    have lw2 := Paired.length hp2
    refine ⟨_, (pss_cons (ps_if (pt_not (pt_val (pe_callB (isiK K rfl) (by rfl) T.z_isinstance (by decide +kernel) (pa_cons (pv 1) (pa_cons (pe_glob (by rfl) T.g_Grid (show RelV (.ref T.C_Grid) _ from rfl)) pa_nil)))))
      (pss_one ps_never)
      pss_nil)
      (pss_cons (ps_if (pt_cmpR op_ne (fldK K rfl (pv 0) rfl) (pe_callB (lenS K rfl) (by rfl) T.z_len (by decide +kernel) (pa_cons (fldK K rfl (pv 1) rfl) pa_nil)) (nomark _))
      (pss_one ps_never)
      pss_nil)
      (pss_cons (ps_set (i := 2) sc_Grid_mul.nd rfl (by first | exact .inl rfl | exact .inr rfl) (fldK K rfl (pe_mt0 (met_Grid_transposed T hN hT) hr (by decide) (pv 1)) rfl))
      (pss_one (ps_ret (pe_mk (mak_Grid T hN hT) hr (by decide) (by rfl) (pa_cons (pe_lc (own := [("row", 3)]) (g := (gName 3)) (by rfl) sc_Grid_mul.nd (piS K rfl (fldK K rfl (pv 0) rfl)) ((by show BlkOk ["self", "other", "columns", "row", "column"] (defScope s_Grid_mul) _ _; exact blkOk_by (by decide +kernel))) (fun _ _ _ _ _ => (pg_name (i := 3) sc_Grid_mul.nd rfl (by first | exact .inl rfl | exact .inr rfl))) (fun _ _ _ _ _ => pts_nil) (fun _ _ _ _ _ => (pe_lc (own := [("column", 4)]) (g := (gName 4)) (by rfl) sc_Grid_mul.nd (piS K rfl (pv 2)) ((by show BlkOk ["self", "other", "columns", "row", "column"] (relS _ (defScope s_Grid_mul)) _ _; exact blkOk_by (by decide +kernel))) (fun _ _ _ _ _ => (pg_name (i := 4) sc_Grid_mul.nd rfl (by first | exact .inl rfl | exact .inr rfl))) (fun _ _ _ _ _ => pts_nil) (fun _ _ _ _ _ => (pe_c (cal_dot T hN hT) hr (by decide) (by rfl) (pa_cons (pv 3) (pa_cons (pv 4) pa_nil))))))) (pa_cons (fldK K rfl (pv 1) rfl) pa_nil)))))))), ?_⟩
    -- if not isinstance(other, Grid)
    refine ⟨_, rfl, .ref p2, .ref T.C_Grid, _, _, true, rfl, .own _, .base (.ins ho2 T.cl_Grid T.kc_Grid T.kg_Grid T.kt_Grid T.km_Grid), ?_, true, rfl, ?_⟩
    · unfold PySem.W.kitOne
      rw [if_pos (beq_self_eq_true _)]
    refine iteF ?_
    -- if self.width != len(other.rows)
    refine ⟨_, rfl, p1, T.C_Grid, dx1, _, _, rfl, ho1, T.cl_Grid, T.n_width, flds_width _ _, _, rfl, p2, T.C_Grid, dx2, _, _, rfl, ho2, T.cl_Grid, T.n_rows, flds_rows _ _, a2, ws2, rfl, .inr hs2, rfl, _, rfl, ?_⟩
    refine iteNS (by rw [hw, lw2]) ?_
    -- columns = other.transposed().rows
    refine ⟨_, rfl, p2, dx2, _, rfl, ho2, m_transposed _ _, .ref p2, m2, w2, rfl, G2, h2, h3, fun g H1 s1 Gt => ?_⟩
    obtain ⟨⟨p3, dx3, t3, rfl, ho3, a3, ws3, rfl, hs3, hp3⟩, hrw3⟩ := id Gt
    have lw3 := Paired.length hp3
    rw [transp_len] at lw3
    refine ⟨p3, T.C_Grid, dx3, _, _, rfl, ho3, T.cl_Grid, T.n_rows, flds_rows _ _, ?_⟩
    -- the outer comprehension
    refine ⟨_, rfl, p1, T.C_Grid, dx1, _, _, rfl, s1 _ _ ho1, T.cl_Grid, T.n_rows, flds_rows _ _, a1, ws1, rfl, .inr (Same.seqT s1 hs1), fun J G W hG D hD => ?_⟩
    refine lc_all W hD (by omega) (fun H4 s4 => hG H4 fun b _ o => s4 b o) (fun i v H4 => ∃ p, v = V.ref p ∧ p ≠ D ∧ H4 p = some (.lst (((mulM m1 m2 w2).getD i []).map V.int))) lists_mono ?_ gm_name ?_
    · rintro i x H4 H4' acc Ko hi s4 eD ⟨rfl, ex⟩ k
      obtain ⟨r, er, hrt⟩ := Paired.getR hp1 ex
      have hrm := List.mem_of_getElem? er
      have eg : (mulM m1 m2 w2).getD i [] = (transp m2 w2).map fun c => dotI r c := by
        unfold mulM
        rw [List.getD_eq_getElem?_getD, List.getElem?_map, er]
        rfl
      refine ⟨rfl, ?_⟩
      refine ⟨_, rfl, a3, ws3, rfl, .inr (Same.seqT s4 hs3), fun J2 G2 W2 hG2 D2 hD2 => ?_⟩
      refine lc_all W2 hD2 (by omega) (fun H5 s5 => hG2 H5 fun b _ o => s5 b o) (fun j v _ => ∃ z, ((mulM m1 m2 w2).getD i [])[j]? = some z ∧ v = .int z) (fun _ _ _ _ _ _ _ h => h) ?_ gm_name ?_
      · rintro j y H5 H5' acc2 Ko2 hj s5 eD2 ⟨rfl, ey⟩ k2
        obtain ⟨c, ec, hct⟩ := Paired.getR hp3 ey
        have hcm := List.mem_of_getElem? ec
        refine ⟨rfl, ?_⟩
        refine ⟨_, rfl, _, rfl, x, y, r, c, B1, B2, rfl, hrt.same (s1.trans (s4.trans s5)), hct.same (s4.trans s5), ?_, ?_, b1 r hrm, transp_bits hrw2 b2 c hcm, hB, fun H6 s6 => ?_⟩
        · rw [hrw1 r hrm, hrw3 c hcm]
          exact hw
        · rw [hrw1 r hrm, hw]
          exact h2
        · refine k2 _ _ s6 ⟨dotI r c, ?_, rfl⟩
          rw [eg, List.getElem?_map, ec]
          rfl
      · intro H5 l s5 eD2 hpl
        have el := ints_list (by rw [eg, List.length_map, transp_len, lw3]) hpl
        refine k _ _ s5 ⟨D2, rfl, ?_, by rw [← el]; exact eD2⟩
        rintro rfl
        rw [eD] at hD2
        cases hD2
    · intro H4 l s4 eD hpl
      have hrows := lists_rows (K := K) (m := mulM m1 m2 w2) (by rw [mulM_len, lw1]) eD hpl
      have sm := s1.trans s4
      refine ⟨_, rfl, p2, T.C_Grid, dx2, _, _, rfl, sm _ _ ho2, T.cl_Grid, T.n_width, flds_width _ _, ?_⟩
      exact make_grid hrows (by rw [mulM_len]; exact h1) h3 mulM_row fun g H' s' G' => q g H' (sm.trans s') G'

end
end K01
namespace K01
open PySem PySem.Spec PyProof.Rows L2 Gm
open C8 (Cal Met Mak pe_c pe_mt pe_mt0 pe_mk)
section
variable {P : Program} {w : World} {K : PySem.W.Frag} {mg : Str → Option Value} {base : Heap}
/-- the state of the draws: two numbers, the first not negative -/
def StAt (H : Hp) (p : Addr) : Prop := ∃ s t : Int, H p = some (.lst [.int s, .int t]) ∧ 0 ≤ s
def sp_law_state (K : PySem.W.Frag) : Sp := fun vs H Q _ => ∃ (a : Addr) (ns : List Int), vs = [.ref a] ∧ SqL K H a (ns.map V.int) ∧ ns.length ≤ 63 ∧ ∀ p H', Same H H' → H p = none → StAt H' p → Q (.ref p) H'
theorem ok_law_state (T : Top K mg) (hN : base.NoSeer) (hT : P.given.tree = none) : FnOk P w K mg base CX0 1 T.a_law_state T.d_law_state ["script"] (sp_law_state K) := by
  refine T.F_law_state.ok sc_law_state (fun vs H Q E h => ?_) (fun cdv A outer s H vs Q E hr h => ?_)
  · obtain ⟨a, ns, rfl, _⟩ := h
    rfl
  · obtain ⟨a, ns, rfl, hs, hl, q⟩ := h
    refine ⟨_, (pss_cons (ps_set (i := 1) sc_law_state.nd rfl (by first | exact .inl rfl | exact .inr rfl) pe_int)
      (pss_cons (ps_set (i := 2) sc_law_state.nd rfl (by first | exact .inl rfl | exact .inr rfl) pe_int)
      (pss_cons (ps_for PassesOwn.never rfl (piS K rfl (pe_slice (slLK K rfl) (pv 0) po_none (po_some pe_int))) (pg_name (i := 3) sc_law_state.nd rfl (by first | exact .inl rfl | exact .inr rfl))
      (pss_cons (ps_set (i := 1) sc_law_state.nd rfl (by first | exact .inl rfl | exact .inr rfl) (pe_op op_add (pe_op op_mul (pv 1) pe_int) (pe_callB (call_abs) (by rfl) T.z_abs (by decide +kernel) (pa_cons (pv 3) pa_nil))))
      (pss_one (ps_set (i := 2) sc_law_state.nd rfl (by first | exact .inl rfl | exact .inr rfl) (pe_op op_mod (pe_callTy (call_int1) (by rfl) T.z_int (by decide +kernel) (pa_cons (pe_op op_add (pe_op op_mul (pv 2) pe_int) (pv 3)) pa_nil)) pe_int)))))
      (pss_one (ps_ret (pe_lst (pa_cons (pv 1) (pa_cons (pv 2) pa_nil)))))))), ?_⟩
    refine ⟨_, rfl, 63, rfl, a, _, rfl, hs, fun p np => ?_⟩
    have s1 : Same H (upd H p (.lst (cutV (ns.map V.int) none (some 63)))) := same_upd np
    have ec : cutV (ns.map V.int) none (some 63) = ns.map V.int := by
      rw [show (63 : Int) = ((63 : Nat) : Int) from rfl, cut_take, List.take_of_length_le (by rw [List.length_map]; exact hl)]
    rw [ec] at s1 ⊢
    refine ⟨p, _, rfl, .inl (.inl (.inl upd_same)), fun J G W hG => ?_⟩
    generalize hH1 : upd H p (.lst (ns.map V.int)) = H1 at s1 hG
    refine for_it W (fun i σ H2 => H2 = H1 ∧ ∃ s t y, σ = [some (.ref a), some (.int s), some (.int t), y] ∧ 0 ≤ s) ⟨rfl, 0, 1, none, rfl, Int.le_refl _⟩ (fun i σ H2 _ ⟨e, _⟩ => hG _ fun b _ o h => by rw [e]; exact h) ?_ ?_
    · rintro i x σ H2 H2' hi ⟨rfl, s, t, y, rfl, h0⟩ ⟨rfl, ex⟩
      obtain ⟨z, ez, rfl⟩ := ints_get ex
      refine ⟨_, rfl, _, _, rfl, rfl, .inr ⟨by decide, by decide⟩, _, rfl, z, rfl, _, _, rfl, rfl, ?_⟩
      refine ⟨_, rfl, _, _, rfl, rfl, .inr ⟨by decide, by decide⟩, _, rfl, _, _, rfl, rfl, .inl ⟨_, rfl, _, _, rfl, rfl, by show (0 : Int) < 2147483647; decide, ?_⟩⟩
      refine ⟨rfl, _, _, _, rfl, ?_⟩
      split <;> omega
    · rintro σ H2 ⟨rfl, s, t, y, rfl, h0⟩
      refine ⟨_, rfl, _, rfl, by show 2 ≤ sizeLine; decide, fun p2 np2 => ?_⟩
      exact q p2 _ (s1.trans (same_upd np2)) (Same.free s1 np2) ⟨s, t, upd_same, h0⟩
theorem cal_law_state (T : Top K mg) (hN : base.NoSeer) (hT : P.given.tree = none) : Cal P w K mg base 1 "_law_state" (sp_law_state K) [] := ⟨⟨_, _, _, [], ok_law_state T hN hT, T.g_law_state, T.F_law_state.kp, T.b_law_state, .nil⟩⟩
def sp_law_take : Sp := fun vs H Q _ => ∃ (p : Addr) (m : Nat), vs = [.ref p, .int m] ∧ StAt H p ∧ 0 < m ∧ m < 1000000 ∧ ∀ (r : Nat) H', r < m → Off p H H' → StAt H' p → Q (.int r) H'
theorem ok_law_take (T : Top K mg) (hN : base.NoSeer) (hT : P.given.tree = none) : FnOk P w K mg base CX0 1 T.a_law_take T.d_law_take ["state", "m"] sp_law_take := by
  refine T.F_law_take.ok sc_law_take (fun vs H Q E h => ?_) (fun cdv A outer s H vs Q E hr h => ?_)
  · obtain ⟨p, m, rfl, _⟩ := h
    rfl
  · obtain ⟨p, m, rfl, ⟨s0, t0, hp, h0⟩, hm0, hm1, q⟩ := h
    have hsq : SqL K H p [V.int s0, V.int t0] := .inl (.inl hp)
    refine ⟨_, (pss_cons (ps_if (pt_cmpR op_gt (pe_ix (ixL K rfl) (pv 0) pe_int (fun _ _ => rfl)) pe_int (nomark _))
      (pss_cons (ps_set (i := 2) sc_law_take.nd rfl (by first | exact .inl rfl | exact .inr rfl) (pe_op op_mod (pe_callTy (call_int1) (by rfl) T.z_int (by decide +kernel) (pa_cons (pe_ix (ixL K rfl) (pv 0) pe_int (fun _ _ => rfl)) pa_nil)) (pv 1)))
      (pss_cons (ps_asg (pe_op op_fdiv (pe_ix (ixL K rfl) (pv 0) pe_int (fun _ _ => rfl)) (pv 1)) (pg_sub (pv 0) pe_int set_list))
      (pss_one (ps_ret (pv 2)))))
      pss_nil)
      (pss_cons (ps_asg (pe_op op_mod (pe_callTy (call_int1) (by rfl) T.z_int (by decide +kernel) (pa_cons (pe_op op_add (pe_op op_mul (pe_ix (ixL K rfl) (pv 0) pe_int (fun _ _ => rfl)) pe_int) pe_int) pa_nil)) pe_int) (pg_sub (pv 0) pe_int set_list))
      (pss_one (ps_ret (pe_op op_mod (pe_callTy (call_int1) (by rfl) T.z_int (by decide +kernel) (pa_cons (pe_op op_fdiv (pe_ix (ixL K rfl) (pv 0) pe_int (fun _ _ => rfl)) pe_int) pa_nil)) (pv 1)))))), ?_⟩
    refine ⟨_, rfl, p, _, _, _, rfl, rfl, hsq, atI_nat (j := 0) rfl, _, _, rfl, rfl, _, rfl, ?_⟩
    have fin : ∀ x : Int, ∃ r : Nat, (r : Int) = x % (m : Int) ∧ r < m := fun x => by
      have h1 := Int.emod_nonneg x (b := (m : Int)) (by omega)
      have h2 := Int.emod_lt_of_pos x (b := (m : Int)) (by omega)
      exact ⟨(x % (m : Int)).toNat, by omega, by omega⟩
    by_cases hs : 0 < s0
    · rw [decide_eq_true hs]
      refine iteT ?_
      refine ⟨_, rfl, p, _, _, _, rfl, rfl, hsq, atI_nat (j := 0) rfl, .inl ⟨_, rfl, _, rfl, _, _, rfl, rfl, by omega, ?_⟩⟩
      refine ⟨_, rfl, p, _, _, _, rfl, rfl, hsq, atI_nat (j := 0) rfl, _, rfl, _, _, rfl, rfl, ⟨by omega, by omega⟩, _, rfl, p, _, _, 0, rfl, rfl, hp, ixN_nat (n := 2) (k := 0) (by decide), ?_⟩
      obtain ⟨r, er, hr2⟩ := fin s0
      refine ⟨_, rfl, ?_⟩
      show Q (.int (s0 % (m : Int))) _
      rw [← er]
      exact q r _ hr2 Off.upd ⟨_, t0, upd_same, Int.ediv_nonneg h0 (by omega)⟩
    · rw [decide_eq_false hs]
      refine iteF ?_
      refine ⟨_, rfl, p, _, _, _, rfl, rfl, hsq, atI_nat (j := 1) rfl, _, _, rfl, rfl, .inr ⟨by decide, by decide⟩, _, _, rfl, rfl, .inl ⟨_, rfl, _, _, rfl, rfl, by show (0 : Int) < 2147483647; decide, ?_⟩⟩
      refine ⟨_, rfl, p, _, _, 1, rfl, rfl, hp, ixN_nat (n := 2) (k := 1) (by decide), ?_⟩
      refine ⟨_, rfl, p, _, _, _, rfl, rfl, .inl (.inl upd_same), atI_nat (j := 1) rfl, _, _, rfl, rfl, ⟨by decide, by decide⟩, .inl ⟨_, rfl, _, rfl, _, _, rfl, rfl, by omega, ?_⟩⟩
      obtain ⟨r, er, hr2⟩ := fin ((t0 * 48271 + 11) % 2147483647 / 7)
      show Q (.int ((t0 * 48271 + 11) % 2147483647 / 7 % (m : Int))) _
      rw [← er]
      exact q r _ hr2 Off.upd ⟨s0, _, upd_same, h0⟩
theorem cal_law_take (T : Top K mg) (hN : base.NoSeer) (hT : P.given.tree = none) : Cal P w K mg base 1 "_law_take" sp_law_take [] := ⟨⟨_, _, _, [], ok_law_take T hN hT, T.g_law_take, T.F_law_take.kp, T.b_law_take, .nil⟩⟩

/-! ### _law_rows -/
def sp_law_rows (K : PySem.W.Frag) : Sp := fun vs H Q _ => ∃ (p : Addr) (h wd M : Nat), vs = [.ref p, .int h, .int wd, .int M] ∧ StAt H p ∧ h ≤ 100 ∧ wd ≤ 100 ∧ M ≤ 1000 ∧
  ∀ v m H', Off p H H' → StAt H' p → TRows K H' v m → m.length = h → (∀ r ∈ m, r.length = wd) → (∀ r ∈ m, ∀ x ∈ r, x.natAbs ≤ 2 * M) → Q v H'
theorem ok_law_rows (T : Top K mg) (hN : base.NoSeer) (hT : P.given.tree = none) : FnOk P w K mg base CX0 2 T.a_law_rows T.d_law_rows ["state", "height", "width", "most"] (sp_law_rows K) := by
  refine T.F_law_rows.ok sc_law_rows (fun vs H Q E h => ?_) (fun cdv A outer s H vs Q E hr h => ?_)
  · obtain ⟨p, h, wd, M, rfl, _⟩ := h
    rfl
  · obtain ⟨p, h, wd, M, rfl, st0, hh, hwd, hM, q⟩ := h
    refine ⟨_, (pss_cons (ps_set (i := 4) sc_law_rows.nd rfl (by first | exact .inl rfl | exact .inr rfl) (pe_lst pa_nil))
      (pss_cons (ps_for PassesOwn.never rfl (pi_range1 (by rfl) T.z_range (pa_cons (pv 1) pa_nil)) (pg_name (i := 5) sc_law_rows.nd rfl (by first | exact .inl rfl | exact .inr rfl))
      (pss_one (ps_expr (pe_bm PySem.F.plainAttrs_list PySem.F.slot_list_append PySem.F.type_list_append mt_append (pv 4) (pa_cons (pe_callTy (tupK K rfl) (by rfl) T.z_tuple (by decide +kernel) (pa_cons (pe_lc (own := [("k", 6)]) (g := (gName 6)) (by rfl) sc_law_rows.nd (pi_range1 (by rfl) T.z_range (pa_cons (pv 2) pa_nil)) ((by show BlkOk ["state", "height", "width", "most", "rows", "i", "k"] (defScope s_law_rows) _ _; exact blkOk_by (by decide +kernel))) (fun _ _ _ _ _ => (pg_name (i := 6) sc_law_rows.nd rfl (by first | exact .inl rfl | exact .inr rfl))) (fun _ _ _ _ _ => pts_nil) (fun _ _ _ _ _ => (pe_op op_sub (pe_c (cal_law_take T hN hT) hr (by decide) (by rfl) (pa_cons (pv 0) (pa_cons (pe_op op_add (pe_op op_mul pe_int (pv 3)) pe_int) pa_nil))) (pv 3)))) pa_nil)) pa_nil)))))
      (C8.pss_cut (ps_if (PW.pt (pw_and (pt_cmpR op_gt (pv 1) pe_int (nomark _)) (pw_and1 (pt_cmpR op_eq (pe_c (cal_law_take T hN hT) hr (by decide) (by rfl) (pa_cons (pv 0) (pa_cons pe_int pa_nil))) pe_int (nomark _)))))
      (pss_one (ps_asg (pe_callTy (tupK K rfl) (by rfl) T.z_tuple (by decide +kernel) (pa_cons (pe_lc (own := [("k", 6)]) (g := (gName 6)) (by rfl) sc_law_rows.nd (pi_range1 (by rfl) T.z_range (pa_cons (pv 2) pa_nil)) ((by show BlkOk ["state", "height", "width", "most", "rows", "i", "k"] (defScope s_law_rows) _ _; exact blkOk_by (by decide +kernel))) (fun _ _ _ _ _ => (pg_name (i := 6) sc_law_rows.nd rfl (by first | exact .inl rfl | exact .inr rfl))) (fun _ _ _ _ _ => pts_nil) (fun _ _ _ _ _ => (pe_op op_mul (pe_ix (ixT K rfl) (pe_ix (ixL K rfl) (pv 4) pe_int (fun _ _ => rfl)) (pv 6) (fun _ _ => rfl)) pe_int))) pa_nil)) (pg_sub (pv 4) (pe_op op_sub (pv 1) pe_int) set_list)))
      pss_nil)
      (pss_one (ps_ret (pe_callTy (tupK K rfl) (by rfl) T.z_tuple (by decide +kernel) (pa_cons (pv 4) pa_nil))))))), ?_⟩
    -- rows = []
    refine ⟨by show 0 ≤ sizeLine; decide, fun R nR => ?_⟩
    have hpR : p ≠ R := by
      obtain ⟨s0, t0, e, _⟩ := st0
      exact ne_of_none e nR
    -- for i in range(height)
    refine ⟨_, rfl, (h : Int), rfl, by omega, by omega, ?_⟩
    let Inv : Nat → Nat → Hp → Prop := fun bd i H2 => Off p H H2 ∧ StAt H2 p ∧ ∃ (l : List V) (m : List (List Int)), H2 R = some (.lst l) ∧ m.length = i ∧ Paired (TRow K H2) l m ∧ (∀ r ∈ m, r.length = wd) ∧ ∀ r ∈ m, ∀ x ∈ r, x.natAbs ≤ bd
    refine for_it walk_range (fun i σ H2 => ∃ y5 y6, σ = [some (.ref p), some (.int h), some (.int wd), some (.int M), some (.ref R), y5, y6] ∧ Inv M i H2) ⟨none, none, rfl, Same.off (same_upd nR), ?_, [], [], upd_same, rfl, .nil, fun r hr => by (cases hr), fun r hr => by (cases hr)⟩ (fun _ _ _ _ _ => trivial) ?_ ?_
    · obtain ⟨s0, t0, e, e2⟩ := st0
      exact ⟨s0, t0, by rw [upd_ne hpR]; exact e, e2⟩
    · rintro i x σ H2 H2' hi ⟨y5, y6, rfl, o2, st2, l, m, eR, lm, hp, hw, hb⟩ ⟨rfl, rfl⟩
      refine ⟨_, rfl, .inl ⟨rfl, _, .inl (.inl eR)⟩, ?_⟩
      refine ⟨_, rfl, (wd : Int), rfl, by omega, by omega, fun D hD => ?_⟩
      have hpD : p ≠ D := by
        obtain ⟨s0, t0, e, _⟩ := st2
        exact ne_of_none e hD
      have hRD : R ≠ D := ne_of_none eR hD
      refine lc_val walk_range (by omega) (fun H4 => Off p H2' H4 ∧ StAt H4 p) ⟨Same.off (same_upd hD), ?_⟩ (fun _ _ => trivial) ?_ (fun _ v => ∃ z : Int, v = V.int z ∧ z.natAbs ≤ M) ?_ gm_name ?_
      · obtain ⟨s0, t0, e, e2⟩ := st2
        exact ⟨s0, t0, by rw [upd_ne hpD]; exact e, e2⟩
      · rintro H4 acc acc' ⟨o4, s0, t0, e, e2⟩ _
        refine ⟨fun b u n h => ?_, s0, t0, by rw [upd_ne hpD]; exact e, e2⟩
        rw [upd_ne (ne_of_none h hD)]
        exact o4 _ _ n h
      · rintro k x H4 H4' acc Ko hk ⟨o4, st4⟩ eD ⟨rfl, rfl⟩ kk
        refine ⟨rfl, ?_⟩
        refine ⟨_, rfl, _, rfl, 2, (M : Int), rfl, rfl, .inl ⟨by decide, by decide⟩, _, _, rfl, rfl, p, 2 * M + 1, ?_, st4, by omega, by omega, fun r H5 hr5 o5 st5 => ?_⟩
        · show [V.ref p, V.int (2 * (M : Int) + 1)] ++ [] = _
          rw [show (2 * (M : Int) + 1) = ((2 * M + 1 : Nat) : Int) by omega]
          rfl
        · refine ⟨_, rfl, _, _, rfl, rfl, ?_⟩
          have eD5 : H5 D = some (.lst acc) := o5 _ _ (Ne.symm hpD) eD
          exact kk _ _ ⟨Off.trans o4 o5, st5⟩ eD5 ⟨(r : Int) - (M : Int), rfl, by omega⟩
      · rintro H4 l2 ⟨o4, st4⟩ eD hpl
        obtain ⟨zs, rfl, lz, bz⟩ := vals_small hpl
        rw [List.length_range] at lz
        refine ⟨D, _, rfl, .inl ⟨.inl (.inl eD), fun t nt => ?_⟩⟩
        have eR4 : (upd H4 t (.tup (zs.map V.int))) R = some (.lst l) := same_upd nt _ _ (o4 _ _ (Ne.symm hpR) eR)
        refine ⟨R, l, _, rfl, rfl, eR4, small1000 ?_, ?_⟩
        · have := Paired.length hp
          omega
        have htp : t ≠ p := by
          obtain ⟨s0, t0, e, _⟩ := st4
          exact (ne_of_none e nt).symm
        have htR : t ≠ R := by
          rintro rfl
          rw [o4 _ _ (Ne.symm hpR) eR] at nt
          cases nt
        refine ⟨_, _, rfl, fun b u n hb' => ?_, ?_, l ++ [.ref t], m ++ [zs], upd_same, by rw [List.length_append, lm]; rfl, ?_, ?_, ?_⟩
        · have h2 := o2 _ _ n hb'
          rw [upd_ne (ne_of_none hb' nR)]
          exact same_upd nt _ _ (o4 _ _ n h2)
        · obtain ⟨s0, t0, e, e2⟩ := st4
          exact ⟨s0, t0, by rw [upd_ne hpR, upd_ne (Ne.symm htp)]; exact e, e2⟩
        · have offR : ∀ {v ns}, TRow K H2' v ns → TRow K (upd (upd H4 t (.tup (zs.map V.int))) R (.lst (l ++ [.ref t]))) v ns := fun {v ns} r => by
            obtain ⟨s0, t0, e, _⟩ := id st2
            exact TRow.off eR4 Off.upd (TRow.same (same_upd nt) (TRow.off e o4 r))
          refine Paired.snoc (L2.Paired.mapP hp fun _ _ => offR) ⟨t, rfl, .inl (.inl ?_)⟩
          rw [upd_ne htR, upd_same]
        · intro r hr'
          rcases List.mem_append.mp hr' with h1 | h1
          · exact hw r h1
          · rw [List.mem_singleton] at h1
            subst h1
            omega
        · intro r hr' x hx
          rcases List.mem_append.mp hr' with h1 | h1
          · exact hb r h1 x hx
          · rw [List.mem_singleton] at h1
            subst h1
            exact bz x hx
    · rintro σ H2 ⟨y5, y6, rfl, o2, st2, l, m, eR, lm, hp, hw, hb⟩
      rw [show ((h : Int)).toNat = h from Int.toNat_natCast h] at lm
      -- if height > 1 and _law_take(state, 5) == 0
      refine ⟨fun σ H3 => ∃ y5 y6, σ = [some (.ref p), some (.int h), some (.int wd), some (.int M), some (.ref R), y5, y6] ∧ Inv (2 * M) h H3, ?_, ?_⟩
      · refine ⟨_, rfl, _, _, rfl, rfl, _, rfl, ?_⟩
        by_cases h1 : (1 : Int) < (h : Int)
        · rw [decide_eq_true h1]
          refine iteT ?_
          refine ⟨_, rfl, p, 5, rfl, st2, by decide, by decide, fun r H3 hr3 o3 st3 => ⟨rfl, _, rfl, ?_⟩⟩
          have eR3 : H3 R = some (.lst l) := o3 _ _ (Ne.symm hpR) eR
          have hp3 : Paired (TRow K H3) l m := L2.Paired.mapP hp fun _ _ r => by
            obtain ⟨s0, t0, e, _⟩ := id st2
            exact TRow.off e o3 r
          have oo := Off.trans o2 o3
          by_cases hr0 : V.int (r : Int) = V.int 0
          · rw [decide_eq_true hr0]
            refine iteT ?_
            -- rows[height - 1] = tuple([rows[0][k] * 2 for k in range(width)])
            refine ⟨_, rfl, (wd : Int), rfl, by omega, by omega, fun D hD => ?_⟩
            refine lc_val walk_range (by omega) (fun H4 => Same H3 H4) (same_upd hD) (fun _ _ => trivial) (fun H4 acc acc' a _ b u hb' => by rw [upd_ne (ne_of_none hb' hD)]; exact a _ _ hb') (fun _ v => ∃ z : Int, v = V.int z ∧ z.natAbs ≤ 2 * M) ?_ gm_name ?_
            · rintro k x H4 H4' acc Ko hk a4 eD ⟨rfl, rfl⟩ kk
              obtain ⟨r0, er0⟩ : ∃ r0, m[0]? = some r0 := ⟨m[0]'(by omega), List.getElem?_eq_getElem (by omega)⟩
              obtain ⟨v0, ev0, b0, rfl, hb0⟩ := Paired.getR (Paired.swap hp3) er0
              have hr0m := List.mem_of_getElem? er0
              have hrl := hw r0 hr0m
              have hk' : k < r0.length := by omega
              refine ⟨rfl, ?_⟩
              refine ⟨_, rfl, R, l, _, _, rfl, rfl, .inl (.inl (a4 _ _ eR3)), atI_nat (j := 0) ev0, _, rfl, b0, _, _, _, rfl, rfl, Same.seqT a4 hb0, at_of (j := k) (by omega) (ints_at (List.getElem?_eq_getElem hk')), _, _, rfl, rfl, .inr ⟨by decide, by decide⟩, ?_⟩
              refine kk _ _ a4 eD ⟨_, rfl, ?_⟩
              have := hb r0 hr0m _ (List.getElem_mem hk')
              omega
            · rintro H4 l2 a4 eD hpl
              obtain ⟨zs, rfl, lz, bz⟩ := vals_small hpl
              rw [List.length_range] at lz
              refine ⟨D, _, rfl, .inl ⟨.inl (.inl eD), fun t nt => ?_⟩⟩
              have eR4 : (upd H4 t (.tup (zs.map V.int))) R = some (.lst l) := same_upd nt _ _ (a4 _ _ eR3)
              have hll := Paired.length hp
              refine ⟨_, rfl, _, rfl, _, _, rfl, rfl, R, l, _, h - 1, rfl, rfl, eR4, ?_, ?_⟩
              · rw [show (h : Int) - 1 = ((h - 1 : Nat) : Int) by omega]
                exact ixN_nat (by omega)
              have htp : t ≠ p := by
                obtain ⟨s0, t0, e, _⟩ := st3
                rintro rfl
                rw [a4 _ _ e] at nt
                cases nt
              have htR : t ≠ R := by
                rintro rfl
                rw [a4 _ _ eR3] at nt
                cases nt
              refine ⟨_, _, rfl, fun b u n hb' => ?_, ?_, l.set (h - 1) (.ref t), m.set (h - 1) zs, upd_same, by rw [List.length_set, lm], ?_, ?_, ?_⟩
              · rw [upd_ne (ne_of_none hb' nR)]
                exact same_upd nt _ _ (a4 _ _ (oo _ _ n hb'))
              · obtain ⟨s0, t0, e, e2⟩ := st3
                exact ⟨s0, t0, by rw [upd_ne hpR]; exact same_upd nt _ _ (a4 _ _ e), e2⟩
              · refine paired_set ⟨t, rfl, .inl (.inl ?_)⟩ _ (L2.Paired.mapP hp3 fun _ _ r => TRow.off eR4 Off.upd (TRow.same (same_upd nt) (TRow.same a4 r)))
                rw [upd_ne htR, upd_same]
              · intro r hr'
                rcases List.mem_or_eq_of_mem_set hr' with h1 | h1
                · exact hw r h1
                · subst h1
                  omega
              · intro r hr' x hx
                rcases List.mem_or_eq_of_mem_set hr' with h1 | h1
                · have := hb r h1 x hx
                  omega
                · subst h1
                  exact bz x hx
          · rw [decide_eq_false hr0]
            refine iteF ?_
            exact ⟨_, _, rfl, oo, st3, l, m, eR3, lm, hp3, hw, fun r hr x hx => by have := hb r hr x hx; omega⟩
        · rw [decide_eq_false h1]
          refine iteF ?_
          show (if false = true then _ else _)
          refine iteF ?_
          exact ⟨_, _, rfl, o2, st2, l, m, eR, lm, hp, hw, fun r hr x hx => by have := hb r hr x hx; omega⟩
      · rintro σ3 H3 ⟨y5', y6', rfl, o3, st3, l3, m3, eR3, lm3, hp3, hw3, hb3⟩
        -- return tuple(rows)
        refine ⟨_, rfl, R, l3, rfl, .inl ⟨.inl (.inl eR3), fun t nt => ?_⟩⟩
        refine q _ m3 _ (Off.trans o3 (Same.off (same_upd nt))) ?_ ⟨t, l3, rfl, .inl (.inl upd_same), L2.Paired.mapP hp3 fun _ _ => TRow.same (same_upd nt)⟩ lm3 hw3 hb3
        obtain ⟨s0, t0, e, e2⟩ := st3
        exact ⟨s0, t0, same_upd nt _ _ e, e2⟩
theorem cal_law_rows (T : Top K mg) (hN : base.NoSeer) (hT : P.given.tree = none) : Cal P w K mg base 2 "_law_rows" (sp_law_rows K) [] := ⟨⟨_, _, _, [], ok_law_rows T hN hT, T.g_law_rows, T.F_law_rows.kp, T.b_law_rows, .nil⟩⟩

/-! ### _law_product -/
def sp_law_product (K : PySem.W.Frag) : Sp := fun vs H Q _ => ∃ (va vb : V) (a b : List (List Int)) (wd B1 B2 : Nat), vs = [va, vb, .int wd] ∧ TRows K H va a ∧ TRows K H vb b ∧ a.length ≤ 1000 ∧ b.length ≤ 1000 ∧ wd ≤ 1000 ∧ (∀ r ∈ a, r.length = b.length) ∧ (∀ r ∈ b, r.length = wd) ∧
  (∀ r ∈ a, Bits B1 r) ∧ (∀ r ∈ b, Bits B2 r) ∧ B1 + B2 ≤ 134217728 ∧ ∀ v' H', Same H H' → TRows K H' v' (mulM a b wd) → Q v' H'
theorem ok_law_product (T : Top K mg) (hN : base.NoSeer) (hT : P.given.tree = none) : FnOk P w K mg base CX0 1 T.a_law_product T.d_law_product ["a", "b", "width"] (sp_law_product K) := by
  refine T.F_law_product.ok sc_law_product (fun vs H Q E h => ?_) (fun cdv A outer s H vs Q E hr h => ?_)
  · obtain ⟨va, vb, a, b, wd, B1, B2, rfl, _⟩ := h
    rfl
  · obtain ⟨va, vb, a, b, wd, B1, B2, rfl, ⟨pa, wa, rfl, ha, hpa⟩, ⟨pb, wb, rfl, hb, hpb⟩, la, lb, hwd, ra, rb, ba, bb, hB, q⟩ := h
    have lwa := Paired.length hpa
    have lwb := Paired.length hpb
    refine ⟨_, (pss_cons (ps_set (i := 3) sc_law_product.nd rfl (by first | exact .inl rfl | exact .inr rfl) (pe_lst pa_nil))
      (pss_cons (ps_for PassesOwn.never rfl (piT K rfl (pv 0)) (pg_name (i := 4) sc_law_product.nd rfl (by first | exact .inl rfl | exact .inr rfl))
      (pss_cons (ps_set (i := 5) sc_law_product.nd rfl (by first | exact .inl rfl | exact .inr rfl) (pe_lst pa_nil))
      (pss_cons (ps_for PassesOwn.never rfl (pi_range1 (by rfl) T.z_range (pa_cons (pv 2) pa_nil)) (pg_name (i := 6) sc_law_product.nd rfl (by first | exact .inl rfl | exact .inr rfl))
      (pss_cons (ps_set (i := 7) sc_law_product.nd rfl (by first | exact .inl rfl | exact .inr rfl) pe_int)
      (pss_cons (ps_for PassesOwn.never rfl (pi_range1 (by rfl) T.z_range (pa_cons (pe_callB (lenS K rfl) (by rfl) T.z_len (by decide +kernel) (pa_cons (pv 1) pa_nil)) pa_nil)) (pg_name (i := 8) sc_law_product.nd rfl (by first | exact .inl rfl | exact .inr rfl))
      (pss_one (ps_set (i := 7) sc_law_product.nd rfl (by first | exact .inl rfl | exact .inr rfl) (pe_op op_add (pv 7) (pe_op op_mulX (pe_ix (ixT K rfl) (pv 4) (pv 8) (fun _ _ => rfl)) (pe_ix (ixT K rfl) (pe_ix (ixT K rfl) (pv 1) (pv 8) (fun _ _ => rfl)) (pv 6) (fun _ _ => rfl)))))))
      (pss_one (ps_expr (pe_bm PySem.F.plainAttrs_list PySem.F.slot_list_append PySem.F.type_list_append mt_append (pv 5) (pa_cons (pv 7) pa_nil)))))))
      (pss_one (ps_expr (pe_bm PySem.F.plainAttrs_list PySem.F.slot_list_append PySem.F.type_list_append mt_append (pv 3) (pa_cons (pe_callTy (tupK K rfl) (by rfl) T.z_tuple (by decide +kernel) (pa_cons (pv 5) pa_nil)) pa_nil)))))))
      (pss_one (ps_ret (pe_callTy (tupK K rfl) (by rfl) T.z_tuple (by decide +kernel) (pa_cons (pv 3) pa_nil)))))), ?_⟩
    -- out = []
    refine ⟨by show 0 ≤ sizeLine; decide, fun R nR => ?_⟩
    have s0 : Same H (upd H R (.lst [])) := same_upd nR
    refine ⟨_, rfl, pa, rfl, ⟨wa, Same.seqT s0 ha⟩, ?_⟩
    generalize hH0 : upd H R (.lst []) = H0 at s0
    have eR0 : H0 R = some (.lst []) := by rw [← hH0, upd_same]
    refine for_it (walk_tup (xs := wa)) (fun i σ H2 => ∃ y4 y5 y6 y7 y8, σ = [some (.ref pa), some (.ref pb), some (.int wd), some (.ref R), y4, y5, y6, y7, y8] ∧ Same H H2 ∧ ∃ l, H2 R = some (.lst l) ∧ Paired (TRow K H2) l ((mulM a b wd).take i)) ⟨_, _, _, _, _, rfl, s0, [], eR0, .nil⟩ (fun i σ H2 _ ⟨_, _, _, _, _, _, s2, _⟩ => Same.seqT s2 ha) ?_ ?_
    · rintro i x σ H2 H2' hi ⟨y4, y5, y6, y7, y8, rfl, s2, l, eR, hl⟩ ⟨rfl, ex⟩
      obtain ⟨r, er, pr, rfl, hpr⟩ := Paired.getR hpa ex
      have hrm := List.mem_of_getElem? er
      have hrl := ra r hrm
      have eg : (mulM a b wd)[i]? = some ((transp b wd).map fun c => dotI r c) := by
        unfold mulM
        rw [List.getElem?_map, er]
        rfl
      have hll := Paired.length hl
      rw [List.length_take] at hll
      -- line = []
      refine ⟨by show 0 ≤ sizeLine; decide, fun L nL => ?_⟩
      have s3 : Same H2' (upd H2' L (.lst [])) := same_upd nL
      -- for k in range(width)
      refine ⟨_, rfl, (wd : Int), rfl, by omega, by omega, ?_⟩
      refine for_it walk_range (fun k σ H3 => ∃ y6 y7 y8, σ = [some (.ref pa), some (.ref pb), some (.int wd), some (.ref R), some (.ref pr), some (.ref L), y6, y7, y8] ∧ Same H2' H3 ∧ H3 L = some (.lst ((((transp b wd).map fun c => dotI r c).take k).map V.int))) ⟨_, _, _, rfl, s3, by rw [upd_same]; rfl⟩ (fun _ _ _ _ _ => trivial) ?_ ?_
      · rintro k x σ H3 H3' hk ⟨y6, y7, y8, rfl, s4, eL⟩ ⟨rfl, rfl⟩
        have hk' : k < wd := by omega
        have sb := s2.trans s4
        -- for j in range(len(b))
        refine ⟨_, rfl, pb, _, rfl, .inr (Same.seqT sb hb), _, rfl, by omega, by omega, ?_⟩
        refine for_it walk_range (fun j σ H4 => ∃ y8, σ = [some (.ref pa), some (.ref pb), some (.int wd), some (.ref R), some (.ref pr), some (.ref L), some (.int (0 + (k : Int))), some (.int ((List.zipWith (· * ·) r (b.map fun r => r.getD k 0)).take j).sum), y8] ∧ H4 = H3') ⟨_, rfl, rfl⟩ (fun _ _ _ _ _ => trivial) ?_ ?_
        · rintro j x σ H4 H4' hj ⟨y8, rfl, rfl⟩ ⟨rfl, rfl⟩
          have hj' : j < b.length := by omega
          have hjr : j < r.length := by omega
          obtain ⟨vb, evb, qb, rfl, hqb⟩ := Paired.getR (Paired.swap hpb) (List.getElem?_eq_getElem hj')
          have hbl := rb _ (List.getElem_mem hj')
          have hkb : k < (b[j]).length := by omega
          refine ⟨_, rfl, _, rfl, _, rfl, pr, _, _, _, rfl, rfl, Same.seqT sb hpr, at_of (j := j) (by omega) (ints_at (List.getElem?_eq_getElem hjr)), ?_⟩
          refine ⟨_, rfl, _, rfl, pb, wb, _, _, rfl, rfl, Same.seqT sb hb, at_of (j := j) (by omega) evb, _, rfl, qb, _, _, _, rfl, rfl, Same.seqT sb hqb, at_of (j := k) (by omega) (ints_at (List.getElem?_eq_getElem hkb)), ?_⟩
          refine ⟨_, _, rfl, rfl, mulx_ok (ba r hrm _ (List.getElem_mem hjr)) (bb _ (List.getElem_mem hj') _ (List.getElem_mem hkb)) hB, _, _, rfl, rfl, ?_⟩
          refine ⟨some (.int (0 + (j : Int))), ?_, rfl⟩
          have ez : (List.zipWith (· * ·) r (b.map fun r => r.getD k 0))[j]? = some (r[j] * (b[j])[k]) := by
            rw [List.getElem?_zipWith, List.getElem?_eq_getElem hjr, List.getElem?_map, List.getElem?_eq_getElem hj']
            show some (r[j] * (b[j]).getD k 0) = _
            rw [List.getD_eq_getElem?_getD, List.getElem?_eq_getElem hkb]
            rfl
          rw [sum_take ez]
          rfl
        · rintro σ H4 ⟨y8, rfl, rfl⟩
          -- line.append(total)
          refine ⟨_, rfl, .inl ⟨rfl, _, .inl (.inl eL)⟩, _, rfl, L, _, _, rfl, rfl, eL, small1000 (by rw [List.length_map, List.length_take, List.length_map, transp_len]; omega), ?_⟩
          refine ⟨_, _, _, rfl, fun c o h => ?_, ?_⟩
          · rw [upd_ne (ne_of_none h nL)]
            exact s4 _ _ h
          · rw [upd_same, List.take_of_length_le (l := List.zipWith (· * ·) r (b.map fun r => r.getD k 0)) (by rw [List.length_zipWith, List.length_map]; omega)]
            have ec : ((transp b wd).map fun c => dotI r c)[k]? = some (dotI r (b.map fun r => r.getD k 0)) := by
              unfold transp
              rw [List.getElem?_map, List.getElem?_map, List.getElem?_range hk']
              rfl
            rw [List.take_add_one, ec, List.map_append]
            rfl
      · rintro σ H3 ⟨y6, y7, y8, rfl, s4, eL⟩
        rw [List.take_of_length_le (by rw [List.length_map, transp_len]; omega)] at eL
        -- out.append(tuple(line))
        have eR3 := s4 _ _ eR
        refine ⟨_, rfl, .inl ⟨rfl, _, .inl (.inl eR3)⟩, _, rfl, L, _, rfl, .inl ⟨.inl (.inl eL), fun t nt => ?_⟩⟩
        have st := same_upd (o := .tup (((transp b wd).map fun c => dotI r c).map V.int)) nt
        have eR4 := st _ _ eR3
        refine ⟨R, l, _, rfl, rfl, eR4, small1000 (by omega), ?_⟩
        have htR : t ≠ R := by
          rintro rfl
          rw [eR3] at nt
          cases nt
        refine ⟨_, _, _, _, _, rfl, fun c o h => ?_, l ++ [.ref t], upd_same, ?_⟩
        · rw [upd_ne (ne_of_none h nR)]
          exact st _ _ (s4 _ _ (s2 _ _ h))
        · rw [List.take_add_one, eg]
          refine Paired.snoc (L2.Paired.mapP hl fun _ _ r => TRow.off eR4 Off.upd (TRow.same st (TRow.same s4 r))) ⟨t, rfl, .inl (.inl ?_)⟩
          rw [upd_ne htR, upd_same]
    · rintro σ H2 ⟨y4, y5, y6, y7, y8, rfl, s2, l, eR, hl⟩
      refine ⟨_, rfl, R, l, rfl, .inl ⟨.inl (.inl eR), fun t nt => ?_⟩⟩
      refine q _ _ (s2.trans (same_upd nt)) ⟨t, l, rfl, .inl (.inl upd_same), ?_⟩
      rw [List.take_of_length_le (by rw [mulM_len]; omega)] at hl
      exact L2.Paired.mapP hl fun _ _ => TRow.same (same_upd nt)
theorem cal_law_product (T : Top K mg) (hN : base.NoSeer) (hT : P.given.tree = none) : Cal P w K mg base 1 "_law_product" (sp_law_product K) [] := ⟨⟨_, _, _, [], ok_law_product T hN hT, T.g_law_product, T.F_law_product.kp, T.b_law_product, .nil⟩⟩
/-! ### _law_is_rows -/
def sp_law_is_rows (K : PySem.W.Frag) (C : Addr) : Sp := fun vs H Q _ => ∃ (v : V) (m : List (List Int)) (n wd : Nat), vs = [v, .int n, .int wd] ∧ IsGrid K C H v m wd ∧ m.length = n ∧ n ≤ 1000 ∧ Q (.bl true) H
theorem row_ty {K : PySem.W.Frag} {H : Hp} {a : Addr} {xs : List V} (h : SqT K H a xs) : TyX K H (.ref a) (.type "tuple") := by
  rcases h with (h | ⟨o, h⟩) | ⟨o, its, n, h, c, _⟩
  · exact .base (.tup h)
  · exact .fTuple h
  · exact .kTuple h c
theorem ok_law_is_rows (T : Top K mg) (hN : base.NoSeer) (hT : P.given.tree = none) : FnOk P w K mg base CX0 3 T.a_law_is_rows T.d_law_is_rows ["value", "height", "width"] (sp_law_is_rows K T.C_Grid) := by
  refine T.F_law_is_rows.ok sc_law_is_rows (fun vs H Q E h => ?_) (fun cdv A outer s H vs Q E hr h => ?_)
  · obtain ⟨v, m, n, wd, rfl, _⟩ := h
    rfl
  · obtain ⟨v, m, n, wd, rfl, G, hl, hn, q⟩ := h
    obtain ⟨⟨p, dx, t, rfl, ho, a, ws, rfl, hs, hp⟩, hrw⟩ := id G
    have lw := Paired.length hp
    refine ⟨_, (pss_cons (ps_if (PW.pt (pw_or (pt_not (pt_val (pe_callB (isiK K rfl) (by rfl) T.z_isinstance (by decide +kernel) (pa_cons (pv 0) (pa_cons (pe_glob (by rfl) T.g_Grid (show RelV (.ref T.C_Grid) _ from rfl)) pa_nil))))) (pw_or (pt_not (pt_val (pe_callB (isiK K rfl) (by rfl) T.z_isinstance (by decide +kernel) (pa_cons (fldK K rfl (pv 0) rfl) (pa_cons (pe_bltn (v := .ty "tuple") (by rfl) T.z_tuple (by decide +kernel) rfl) pa_nil))))) (pw_or (pt_cmpR op_ne (fldK K rfl (pv 0) rfl) (pv 2) (nomark _)) (pw_or1 (pt_cmpR op_ne (pe_callB (call_ownLen (E := L2.E0) (T.m_Grid_len.at_) T.m_Grid_len.fn (ok_Grid_len T hN hT) (hr.mono (by decide)) T.b_Grid_len (fun _ _ _ _ h => h.elim)) (by rfl) T.z_len (by decide +kernel) (pa_cons (pv 0) pa_nil)) (pv 1) (nomark _)))))))
      (pss_one (ps_ret pe_bl))
      pss_nil)
      (pss_cons (ps_for PassesOwn.never rfl (piS K rfl (fldK K rfl (pv 0) rfl)) (pg_name (i := 3) sc_law_is_rows.nd rfl (by first | exact .inl rfl | exact .inr rfl))
      (pss_cons (ps_if (PW.pt (pw_or (pt_not (pt_val (pe_callB (isiK K rfl) (by rfl) T.z_isinstance (by decide +kernel) (pa_cons (pv 3) (pa_cons (pe_bltn (v := .ty "tuple") (by rfl) T.z_tuple (by decide +kernel) rfl) pa_nil))))) (pw_or1 (pt_cmpR op_ne (pe_callB (lenS K rfl) (by rfl) T.z_len (by decide +kernel) (pa_cons (pv 3) pa_nil)) (pv 2) (nomark _)))))
      (pss_one (ps_ret pe_bl))
      pss_nil)
      (pss_one (ps_for PassesOwn.never rfl (piS K rfl (pv 3)) (pg_name (i := 4) sc_law_is_rows.nd rfl (by first | exact .inl rfl | exact .inr rfl))
      (pss_one (ps_if (PW.pt (pw_or (pt_not (pt_val (pe_callB (isiK K rfl) (by rfl) T.z_isinstance (by decide +kernel) (pa_cons (pv 4) (pa_cons (pe_bltn (v := .ty "int") (by rfl) T.z_int (by decide +kernel) rfl) pa_nil))))) (pw_or1 (pt_val (pe_callB (isiK K rfl) (by rfl) T.z_isinstance (by decide +kernel) (pa_cons (pv 4) (pa_cons (pe_bltn (v := .ty "bool") (by rfl) T.z_bool (by decide +kernel) rfl) pa_nil)))))))
      (pss_one (ps_ret pe_bl))
      pss_nil))))))
      (pss_one (ps_ret pe_bl)))), ?_⟩
    refine ⟨_, rfl, .ref p, .ref T.C_Grid, _, _, true, rfl, .own _, .base (.ins ho T.cl_Grid T.kc_Grid T.kg_Grid T.kt_Grid T.km_Grid), ?_, true, rfl, ?_⟩
    · unfold PySem.W.kitOne
      rw [if_pos (beq_self_eq_true _)]
    refine iteF ?_
    refine ⟨_, rfl, p, T.C_Grid, dx, _, _, rfl, ho, T.cl_Grid, T.n_rows, flds_rows _ _, .ref a, .ty "tuple", _, _, true, rfl, .ty _, row_ty hs, kit_ty (by decide +kernel), true, rfl, ?_⟩
    refine iteF ?_
    refine ⟨_, rfl, p, T.C_Grid, dx, _, _, rfl, ho, T.cl_Grid, T.n_width, flds_width _ _, _, rfl, rfl, _, rfl, ?_⟩
    rw [decide_eq_true rfl]
    refine iteF ?_
    refine ⟨_, rfl, p, dx, _, rfl, ho, .ref p, m, wd, rfl, G, m.length, rfl, by omega, _, rfl, rfl, _, rfl, ?_⟩
    rw [hl, decide_eq_true rfl]
    refine iteF ?_
    -- for row in value.rows
    refine ⟨_, rfl, p, T.C_Grid, dx, _, _, rfl, ho, T.cl_Grid, T.n_rows, flds_rows _ _, a, ws, rfl, .inr hs, fun J G W hG => ?_⟩
    refine for_it W (fun i σ H2 => ∃ y3 y4, σ = [some (.ref p), some (.int n), some (.int wd), y3, y4] ∧ H2 = H) ⟨_, _, rfl, rfl⟩ (fun i σ H2 _ ⟨_, _, _, e⟩ => hG _ fun b _ o h => by rw [e]; exact h) ?_ ?_
    · rintro i x σ H2 H2' hi ⟨y3, y4, rfl, rfl⟩ ⟨rfl, ex⟩
      obtain ⟨r, er, b, rfl, hb⟩ := Paired.getR hp ex
      have hrl := hrw r (List.mem_of_getElem? er)
      refine ⟨_, rfl, .ref b, .ty "tuple", _, _, true, rfl, .ty _, row_ty hb, kit_ty (by decide +kernel), true, rfl, ?_⟩
      refine iteF ?_
      refine ⟨_, rfl, b, _, rfl, .inr hb, _, rfl, rfl, _, rfl, ?_⟩
      rw [List.length_map, hrl, decide_eq_true rfl]
      refine iteF ?_
      -- for x in row
      refine ⟨_, rfl, b, _, rfl, .inr hb, fun J2 G2 W2 hG2 => ?_⟩
      refine for_it W2 (fun i σ H2 => ∃ y4, σ = [some (.ref p), some (.int n), some (.int wd), some (.ref b), y4] ∧ H2 = H2') ⟨_, rfl, rfl⟩ (fun i σ H2 _ ⟨_, _, e⟩ => hG2 _ fun b _ o h => by rw [e]; exact h) ?_ ?_
      · rintro j y σ H3 H3' hj ⟨y4, rfl, rfl⟩ ⟨rfl, ey⟩
        obtain ⟨z, ez, rfl⟩ := ints_get ey
        refine ⟨_, rfl, .int z, .ty "int", _, _, true, rfl, .ty _, .base (.int z), kit_ty (by decide +kernel), true, rfl, ?_⟩
        refine iteF ?_
        refine ⟨_, rfl, .int z, .ty "bool", _, _, false, rfl, .ty _, .base (.int z), kit_ty (by decide +kernel), false, rfl, ?_⟩
        refine iteF ?_
        exact ⟨_, rfl, rfl⟩
      · rintro σ H3 ⟨y4, rfl, rfl⟩
        exact ⟨_, _, rfl, rfl⟩
    · rintro σ H2 ⟨y3, y4, rfl, rfl⟩
      exact q
theorem cal_law_is_rows (T : Top K mg) (hN : base.NoSeer) (hT : P.given.tree = none) : Cal P w K mg base 3 "_law_is_rows" (sp_law_is_rows K T.C_Grid) [] := ⟨⟨_, _, _, [], ok_law_is_rows T hN hT, T.g_law_is_rows, T.F_law_is_rows.kp, T.b_law_is_rows, .nil⟩⟩


end
end K01
namespace K01
open PySem PySem.Spec PyProof.Rows L2 Gm
open C8 (Cal Met Mak pe_c pe_mt pe_mt0 pe_mk)
section
variable {P : Program} {w : World} {K : PySem.W.Frag} {mg : Str → Option Value} {base : Heap}
/-! ### scaled -/
def scaleM (k : Int) (m : List (List Int)) : List (List Int) := m.map fun r => r.map fun x => k * x
theorem scaleM_len (k : Int) (m : List (List Int)) : (scaleM k m).length = m.length := List.length_map ..
theorem scaleM_row {k : Int} {m : List (List Int)} {w : Nat} (h : ∀ r ∈ m, r.length = w) : ∀ r ∈ scaleM k m, r.length = w := fun r hr => by
  obtain ⟨x, hx, rfl⟩ := List.mem_map.mp hr
  rw [List.length_map]
  exact h x hx
def sp_Grid_scaled (K : PySem.W.Frag) (C : Addr) : Sp := fun vs H Q _ => ∃ v m w k Bk B, vs = [v, .int k] ∧ IsGrid K C H v m w ∧ m.length ≤ 1000 ∧ w ≤ 1000 ∧ k.natAbs < 2 ^ Bk ∧ (∀ r ∈ m, Bits B r) ∧ Bk + B ≤ 134217728 ∧ ∀ g H', Same H H' → IsGrid K C H' g (scaleM k m) w → Q g H'
theorem ok_Grid_scaled (T : Top K mg) (hN : base.NoSeer) (hT : P.given.tree = none) : FnOk P w K mg base CX0 5 T.a_Grid_scaled T.d_Grid_scaled ["self", "k"] (sp_Grid_scaled K T.C_Grid) := by
  refine T.F_Grid_scaled.ok sc_Grid_scaled (fun vs H Q E h => ?_) (fun cdv A outer s H vs Q E hr h => ?_)
  · obtain ⟨v, m, w, k, Bk, B, rfl, _⟩ := h
    rfl
  · obtain ⟨v, m, n, c, Bk, B, rfl, G, hl, hw, bk, bm, hB, q⟩ := h
    obtain ⟨⟨p, dx, t, rfl, ho, a, ws, rfl, hs, hp⟩, hrw⟩ := id G
    have lw := Paired.length hp
    refine ⟨_, (pss_one (ps_ret (pe_mk (mak_Grid T hN hT) hr (by decide) (by rfl) (pa_cons (pe_lc (own := [("row", 2)]) (g := (gName 2)) (by rfl) sc_Grid_scaled.nd (piS K rfl (fldK K rfl (pv 0) rfl)) ((by show BlkOk ["self", "k", "row", "item"] (defScope s_Grid_scaled) _ _; exact blkOk_by (by decide +kernel))) (fun _ _ _ _ _ => (pg_name (i := 2) sc_Grid_scaled.nd rfl (by first | exact .inl rfl | exact .inr rfl))) (fun _ _ _ _ _ => pts_nil) (fun _ _ _ _ _ => (pe_lc (own := [("item", 3)]) (g := (gName 3)) (by rfl) sc_Grid_scaled.nd (piS K rfl (pv 2)) ((by show BlkOk ["self", "k", "row", "item"] (relS _ (defScope s_Grid_scaled)) _ _; exact blkOk_by (by decide +kernel))) (fun _ _ _ _ _ => (pg_name (i := 3) sc_Grid_scaled.nd rfl (by first | exact .inl rfl | exact .inr rfl))) (fun _ _ _ _ _ => pts_nil) (fun _ _ _ _ _ => (pe_op op_mulX (pv 1) (pv 3)))))) (pa_cons (fldK K rfl (pv 0) rfl) pa_nil))))), ?_⟩
    refine ⟨_, rfl, p, T.C_Grid, dx, _, _, rfl, ho, T.cl_Grid, T.n_rows, flds_rows _ _, a, ws, rfl, .inr hs, fun J G0 W hG D hD => ?_⟩
    refine lc_all W hD (by omega) (fun H4 s4 => hG H4 fun b _ o => s4 b o) (fun i v H4 => ∃ p, v = V.ref p ∧ p ≠ D ∧ H4 p = some (.lst (((scaleM c m).getD i []).map V.int))) lists_mono ?_ gm_name ?_
    · rintro i x H4 H4' acc Ko hi s4 eD ⟨rfl, ex⟩ k
      obtain ⟨r, er, b, rfl, hb⟩ := Paired.getR hp ex
      have hrm := List.mem_of_getElem? er
      have hrl := hrw r hrm
      have eg : (scaleM c m).getD i [] = r.map fun x => c * x := by
        unfold scaleM
        rw [List.getD_eq_getElem?_getD, List.getElem?_map, er]
        rfl
      refine ⟨rfl, ?_⟩
      refine ⟨_, rfl, b, _, rfl, .inr (Same.seqT s4 hb), fun J2 G2 W2 hG2 D2 hD2 => ?_⟩
      refine lc_all W2 hD2 (by rw [List.length_map]; omega) (fun H5 s5 => hG2 H5 fun b _ o => s5 b o) (fun j v _ => ∃ z, ((scaleM c m).getD i [])[j]? = some z ∧ v = .int z) (fun _ _ _ _ _ _ _ h => h) ?_ gm_name ?_
      · rintro j y H5 H5' acc2 Ko2 hj s5 eD2 ⟨rfl, ey⟩ k2
        obtain ⟨z, ez, rfl⟩ := ints_get ey
        refine ⟨rfl, ?_⟩
        refine ⟨_, rfl, _, rfl, c, z, rfl, rfl, mulx_ok bk ((bm r hrm).at ez) hB, ?_⟩
        refine k2 _ _ (Same.refl _) ⟨c * z, ?_, rfl⟩
        rw [eg, List.getElem?_map, ez]
        rfl
      · intro H5 l s5 eD2 hpl
        have el := ints_list (by rw [eg, List.length_map, List.length_map]) hpl
        refine k _ _ s5 ⟨D2, rfl, ?_, by rw [← el]; exact eD2⟩
        rintro rfl
        rw [eD] at hD2
        cases hD2
    · intro H4 l s4 eD hpl
      have hrows := lists_rows (K := K) (m := scaleM c m) (by rw [scaleM_len]; omega) eD hpl
      refine ⟨_, rfl, p, T.C_Grid, dx, _, _, rfl, s4 _ _ ho, T.cl_Grid, T.n_width, flds_width _ _, ?_⟩
      exact make_grid hrows (by rw [scaleM_len]; exact hl) hw (scaleM_row hrw) fun g H' s' G' => q g H' (s4.trans s') G'
theorem met_Grid_scaled (T : Top K mg) (hN : base.NoSeer) (hT : P.given.tree = none) : Met P w K mg base 5 T.C_Grid "scaled" (sp_Grid_scaled K T.C_Grid) [] := ⟨⟨_, _, _, [], T.cl_Grid, T.m_Grid_scaled, ok_Grid_scaled T hN hT, T.b_Grid_scaled, .nil⟩⟩
theorem m_scaled (t : V) (w : Nat) : (flds t w).lookup ("scaled" : Str) = none := flds_no t w (by decide +kernel) (by decide +kernel)
theorem m_times (t : V) (w : Nat) : (flds t w).lookup ("times" : Str) = none := flds_no t w (by decide +kernel) (by decide +kernel)
theorem m_before (t : V) (w : Nat) : (flds t w).lookup ("before" : Str) = none := flds_no t w (by decide +kernel) (by decide +kernel)
theorem m_stacked (t : V) (w : Nat) : (flds t w).lookup ("stacked" : Str) = none := flds_no t w (by decide +kernel) (by decide +kernel)
/-! ### -a -/
def sp_Grid_neg (K : PySem.W.Frag) (C : Addr) : Sp := fun vs H Q _ => ∃ v m w B, vs = [v] ∧ IsGrid K C H v m w ∧ m.length ≤ 1000 ∧ w ≤ 1000 ∧ (∀ r ∈ m, Bits B r) ∧ B ≤ 1200000 ∧ ∀ g H', Same H H' → IsGrid K C H' g (scaleM (-1) m) w → Q g H'
theorem ok_Grid_neg (T : Top K mg) (hN : base.NoSeer) (hT : P.given.tree = none) : FnOk P w K mg base CX0 6 T.a_Grid_neg T.d_Grid_neg ["self"] (sp_Grid_neg K T.C_Grid) := by
  refine T.F_Grid_neg.ok sc_Grid_neg (fun vs H Q E h => ?_) (fun cdv A outer s H vs Q E hr h => ?_)
  · obtain ⟨v, m, w, B, rfl, _⟩ := h
    rfl
  · obtain ⟨v, m, n, B, rfl, G, hl, hw, bm, hB, q⟩ := h
    obtain ⟨⟨p, dx, t, rfl, ho, ht⟩, hrw⟩ := id G
    refine ⟨_, (pss_one (ps_ret (pe_mt (met_Grid_scaled T hN hT) hr (by decide) (pv 0) (pa_cons (pe_un un_neg pe_int) pa_nil)))), ?_⟩
    refine ⟨_, rfl, p, dx, _, rfl, ho, m_scaled _ _, _, rfl, .ref p, m, n, -1, 1, B, rfl, G, hl, hw, by decide, bm, by omega, q⟩
/-! ### times, before -/
def timesM (m : List (List Int)) (r : List Int) : List Int := m.map fun o => dotI o r
def sp_Grid_times (K : PySem.W.Frag) (C : Addr) : Sp := fun vs H Q _ => ∃ v m w u r B1 B2, vs = [v, u] ∧ IsGrid K C H v m w ∧ TRow K H u r ∧ r.length = w ∧ m.length ≤ 1000 ∧ w ≤ 1000 ∧ (∀ o ∈ m, Bits B1 o) ∧ Bits B2 r ∧ B1 + B2 ≤ 134217728 ∧ ∀ v' H', Same H H' → TRow K H' v' (timesM m r) → Q v' H'
theorem ok_Grid_times (T : Top K mg) (hN : base.NoSeer) (hT : P.given.tree = none) : FnOk P w K mg base CX0 2 T.a_Grid_times T.d_Grid_times ["self", "row"] (sp_Grid_times K T.C_Grid) := by
  refine T.F_Grid_times.ok sc_Grid_times (fun vs H Q E h => ?_) (fun cdv A outer s H vs Q E hr h => ?_)
  · obtain ⟨v, m, w, u, r, B1, B2, rfl, _⟩ := h
    rfl
  · obtain ⟨v, m, n, u, r, B1, B2, rfl, G, ⟨b, rfl, hb⟩, hrl, hl, hw, b1, b2, hB, q⟩ := h
    obtain ⟨⟨p, dx, t, rfl, ho, a, ws, rfl, hs, hp⟩, hrw⟩ := id G
    have lw := Paired.length hp
    refine ⟨_, (pss_cons (ps_if (pt_cmpR op_ne (pe_callB (lenS K rfl) (by rfl) T.z_len (by decide +kernel) (pa_cons (pv 1) pa_nil)) (fldK K rfl (pv 0) rfl) (nomark _))
      (pss_one ps_never)
      pss_nil)
      (pss_one (ps_ret (pe_callTy (tupK K rfl) (by rfl) T.z_tuple (by decide +kernel) (pa_cons (pe_lc (own := [("own", 2)]) (g := (gName 2)) (by rfl) sc_Grid_times.nd (piS K rfl (fldK K rfl (pv 0) rfl)) ((by show BlkOk ["self", "row", "own"] (defScope s_Grid_times) _ _; exact blkOk_by (by decide +kernel))) (fun _ _ _ _ _ => (pg_name (i := 2) sc_Grid_times.nd rfl (by first | exact .inl rfl | exact .inr rfl))) (fun _ _ _ _ _ => pts_nil) (fun _ _ _ _ _ => (pe_c (cal_dot T hN hT) hr (by decide) (by rfl) (pa_cons (pv 2) (pa_cons (pv 1) pa_nil))))) pa_nil))))), ?_⟩
    refine ⟨_, rfl, b, _, rfl, .inr hb, _, rfl, p, T.C_Grid, dx, _, _, rfl, ho, T.cl_Grid, T.n_width, flds_width _ _, rfl, _, rfl, ?_⟩
    rw [List.length_map, hrl, decide_eq_true rfl]
    refine iteF ?_
    refine ⟨_, rfl, p, T.C_Grid, dx, _, _, rfl, ho, T.cl_Grid, T.n_rows, flds_rows _ _, a, ws, rfl, .inr hs, fun J G0 W hG D hD => ?_⟩
    refine lc_all W hD (by omega) (fun H4 s4 => hG H4 fun b _ o => s4 b o) (fun i v _ => ∃ z, (timesM m r)[i]? = some z ∧ v = .int z) (fun _ _ _ _ _ _ _ h => h) ?_ gm_name ?_
    · rintro i x H4 H4' acc Ko hi s4 eD ⟨rfl, ex⟩ k
      obtain ⟨o, eo, c, rfl, hc⟩ := Paired.getR hp ex
      have hom := List.mem_of_getElem? eo
      have hol := hrw o hom
      refine ⟨rfl, ?_⟩
      refine ⟨_, rfl, _, rfl, .ref c, .ref b, o, r, B1, B2, rfl, ⟨c, rfl, Same.seqT s4 hc⟩, ⟨b, rfl, Same.seqT s4 hb⟩, by omega, by omega, b1 o hom, b2, hB, fun H6 s6 => ?_⟩
      refine k _ _ s6 ⟨dotI o r, ?_, rfl⟩
      unfold timesM
      rw [List.getElem?_map, eo]
      rfl
    · intro H4 l s4 eD hpl
      have el := ints_list (by unfold timesM; rw [List.length_map, lw]) hpl
      subst el
      refine ⟨D, _, rfl, .inl ⟨.inl (.inl eD), fun t nt => ?_⟩⟩
      exact q _ _ (s4.trans (same_upd nt)) ⟨t, rfl, .inl (.inl upd_same)⟩
theorem met_Grid_times (T : Top K mg) (hN : base.NoSeer) (hT : P.given.tree = none) : Met P w K mg base 2 T.C_Grid "times" (sp_Grid_times K T.C_Grid) [] := ⟨⟨_, _, _, [], T.cl_Grid, T.m_Grid_times, ok_Grid_times T hN hT, T.b_Grid_times, .nil⟩⟩
def sp_Grid_before (K : PySem.W.Frag) (C : Addr) : Sp := fun vs H Q _ => ∃ v m w u r B1 B2, vs = [v, u] ∧ IsGrid K C H v m w ∧ TRow K H u r ∧ r.length = m.length ∧ m.length ≤ 1000 ∧ w ≤ 1000 ∧ (∀ o ∈ m, Bits B1 o) ∧ Bits B2 r ∧ B1 + B2 ≤ 134217728 ∧ ∀ v' H', Same H H' → TRow K H' v' (timesM (transp m w) r) → Q v' H'
theorem ok_Grid_before (T : Top K mg) (hN : base.NoSeer) (hT : P.given.tree = none) : FnOk P w K mg base CX0 6 T.a_Grid_before T.d_Grid_before ["self", "row"] (sp_Grid_before K T.C_Grid) := by
  refine T.F_Grid_before.ok sc_Grid_before (fun vs H Q E h => ?_) (fun cdv A outer s H vs Q E hr h => ?_)
  · obtain ⟨v, m, w, u, r, B1, B2, rfl, _⟩ := h
    rfl
  · obtain ⟨v, m, n, u, r, B1, B2, rfl, G, hu, hrl, hl, hw, b1, b2, hB, q⟩ := h
    obtain ⟨⟨p, dx, t, rfl, ho, ht⟩, hrw⟩ := id G
    refine ⟨_, (pss_one (ps_ret (pe_mt (met_Grid_times T hN hT) hr (by decide) (pe_mt0 (met_Grid_transposed T hN hT) hr (by decide) (pv 0)) (pa_cons (pv 1) pa_nil)))), ?_⟩
    refine ⟨_, rfl, p, dx, _, rfl, ho, m_transposed _ _, .ref p, m, n, rfl, G, hl, hw, fun g H1 s1 G1 => ?_⟩
    obtain ⟨⟨p1, dx1, t1, rfl, ho1, ht1⟩, hrw1⟩ := id G1
    refine ⟨p1, dx1, _, rfl, ho1, m_times _ _, _, rfl, .ref p1, transp m n, m.length, u, r, B1, B2, rfl, G1, TRow.same s1 hu, hrl, by rw [transp_len]; exact hw, hl, transp_bits hrw b1, b2, hB, fun v' H2 s2 h2 => q v' H2 (s1.trans s2) h2⟩
theorem met_Grid_before (T : Top K mg) (hN : base.NoSeer) (hT : P.given.tree = none) : Met P w K mg base 6 T.C_Grid "before" (sp_Grid_before K T.C_Grid) [] := ⟨⟨_, _, _, [], T.cl_Grid, T.m_Grid_before, ok_Grid_before T hN hT, T.b_Grid_before, .nil⟩⟩

end
end K01
namespace K01
open PySem PySem.Spec PyProof.Rows L2 Gm
open C8 (Cal Met Mak pe_c pe_mt pe_mt0 pe_mk)
section
variable {P : Program} {w : World} {K : PySem.W.Frag} {mg : Str → Option Value} {base : Heap}
/-! ### tables as data -/
def pdR (r : List Int) : PyData := .tuple (r.map .int)
def pdM (m : List (List Int)) : PyData := .tuple (m.map pdR)
theorem dp_ints {K : PySem.W.Frag} {H : Hp} : ∀ r : List Int, DpAll K H (r.map V.int) (r.map PyData.int)
  | [] => .nil
  | _ :: r => .cons (.int _) (dp_ints r)
theorem dp_row {K : PySem.W.Frag} {H : Hp} {v : V} {r : List Int} (h : TRow K H v r) : Dp K H v (pdR r) := by
  obtain ⟨a, rfl, hs⟩ := h
  exact .tup hs (dp_ints r)
theorem dp_paired {K : PySem.W.Frag} {H : Hp} : ∀ {vs : List V} {m : List (List Int)}, Paired (TRow K H) vs m → DpAll K H vs (m.map pdR)
  | _, _, .nil => .nil
  | _, _, .cons r t => .cons (dp_row r) (dp_paired t)
theorem dp_rows {K : PySem.W.Frag} {H : Hp} {v : V} {m : List (List Int)} (h : TRows K H v m) : Dp K H v (pdM m) := by
  obtain ⟨a, vs, rfl, hs, hp⟩ := h
  exact .tup hs (dp_paired hp)
theorem lay_ints : ∀ r : List Int, PyData.canLayAll0 (r.map PyData.int) = true
  | [] => by simp [PyData.canLayAll0]
  | _ :: r => by simp [PyData.canLayAll0, PyData.canLay0, lay_ints r]
theorem lay_rows : ∀ m : List (List Int), PyData.canLayAll0 (m.map pdR) = true
  | [] => by simp [PyData.canLayAll0]
  | r :: m => by simp [PyData.canLayAll0, PyData.canLay0, pdR, lay_rows m, lay_ints r]
theorem lay_pdM (m : List (List Int)) : (pdM m).canLay0 = true := by simp [pdM, PyData.canLay0, lay_rows m]
theorem dep_ints : ∀ r : List Int, PyData.depthAll (r.map PyData.int) = 0
  | [] => by simp [PyData.depthAll]
  | _ :: r => by simp [PyData.depthAll, PyData.depth, dep_ints r]
theorem dep_rows : ∀ m : List (List Int), PyData.depthAll (m.map pdR) ≤ 1
  | [] => by simp [PyData.depthAll]
  | r :: m => by
    have := dep_rows m
    simp only [List.map_cons, PyData.depthAll, PyData.depth, pdR, dep_ints r]
    omega
theorem shaped_pdM (m : List (List Int)) : SeqAt.shaped (pdM m) = true := by
  unfold SeqAt.shaped
  rw [Bool.and_eq_true, lay_pdM]
  refine ⟨rfl, decide_eq_true ?_⟩
  have := dep_rows m
  simp only [pdM, PyData.depth]
  omega
/-- equal tables are equal -/
theorem ne_rows {K : PySem.W.Frag} {H : Hp} {v u : V} {m1 m2 : List (List Int)} {Q : VK} (h1 : TRows K H v m1) (h2 : TRows K H u m2) (e : m1 = m2) (q : Q (.bl false) H) : rNeD K v u H Q := by
  subst e
  refine ⟨pdM m1, pdM m1, dp_rows h1, dp_rows h2, shaped_pdM _, shaped_pdM _, ?_⟩
  rw [PySem.SeqAt.eqv_refl _ (lay_pdM m1)]
  exact q

end
end K01
namespace K01
open PySem PySem.Spec PyProof.Rows L2 Gm
open C8 (Cal Met Mak pe_c pe_mt pe_mt0 pe_mk)
section
variable {P : Program} {w : World} {K : PySem.W.Frag} {mg : Str → Option Value} {base : Heap}
theorem eqv_ints : ∀ r q : List Int, PyData.eqvAll (r.map PyData.int) (q.map PyData.int) = decide (r = q)
  | [], [] => by simp [PyData.eqvAll]
  | [], b :: q => by simp [PyData.eqvAll]
  | a :: r, [] => by simp [PyData.eqvAll]
  | a :: r, b :: q => by
    simp only [List.map_cons, PyData.eqvAll, PyData.eqv, eqv_ints r q]
    by_cases h : a = b
    · subst h
      by_cases h2 : r = q
      · subst h2
        simp
      · simp [h2]
    · simp [h]
theorem eqv_rows : ∀ m l : List (List Int), PyData.eqvAll (m.map pdR) (l.map pdR) = decide (m = l)
  | [], [] => by simp [PyData.eqvAll]
  | [], b :: q => by simp [PyData.eqvAll]
  | a :: r, [] => by simp [PyData.eqvAll]
  | a :: r, b :: q => by
    simp only [List.map_cons, PyData.eqvAll, pdR, PyData.eqv, eqv_ints a b]
    have ih := eqv_rows r q
    rw [ih]
    by_cases h : a = b
    · subst h
      by_cases h2 : r = q
      · subst h2
        simp
      · simp [h2]
    · simp [h]
theorem eqv_pdM (m l : List (List Int)) : PyData.eqv (pdM m) (pdM l) = decide (m = l) := by
  simp only [pdM, PyData.eqv]
  exact eqv_rows m l
theorem eq_rows {K : PySem.W.Frag} {H : Hp} {v u : V} {m1 m2 : List (List Int)} {Q : VK} (h1 : TRows K H v m1) (h2 : TRows K H u m2) (q : Q (.bl (decide (m1 = m2))) H) : rEqD K v u H Q := by
  refine ⟨pdM m1, pdM m2, dp_rows h1, dp_rows h2, shaped_pdM _, shaped_pdM _, ?_⟩
  rw [eqv_pdM]
  exact q
theorem tup_not {K : PySem.W.Frag} {C : Addr} : PySem.W.subIn K (.type "tuple") (.ref C) = some false := by
  have e : fastBuiltinMro "tuple" = some [.type "tuple", .type "object"] := by decide +kernel
  show (fastBuiltinMro "tuple").map (·.contains (.ref C)) = some false
  rw [e] <;> rfl
/-! ### a == b -/
def sp_Grid_eq (K : PySem.W.Frag) (C : Addr) : Sp := fun vs H Q _ => ∃ v m w u m2, vs = [v, u] ∧ IsGrid K C H v m w ∧ ((∃ w2, IsGrid K C H u m2 w2 ∧ Q (.bl (decide (m = m2 ∧ w = w2))) H) ∨ (TRows K H u m2 ∧ Q (.bl false) H))
theorem ok_Grid_eq (T : Top K mg) (hN : base.NoSeer) (hT : P.given.tree = none) : FnOk P w K mg base CX0 1 T.a_Grid_eq T.d_Grid_eq ["self", "other"] (sp_Grid_eq K T.C_Grid) := by
  refine T.F_Grid_eq.ok sc_Grid_eq (fun vs H Q E h => ?_) (fun cdv A outer s H vs Q E hr h => ?_)
  · obtain ⟨v, m, w, u, m2, rfl, _⟩ := h
    rfl
  · obtain ⟨v, m, n, u, m2, rfl, G, q⟩ := h
    obtain ⟨⟨p, dx, t, rfl, ho, ht⟩, hrw⟩ := id G
    refine ⟨_, (pss_one (ps_ret (pe_and (pe_callB (isiK K rfl) (by rfl) T.z_isinstance (by decide +kernel) (pa_cons (pv 1) (pa_cons (pe_glob (by rfl) T.g_Grid (show RelV (.ref T.C_Grid) _ from rfl)) pa_nil))) (pe_and (pe_cmpR (eqDK K rfl hr) (fldK K rfl (pv 0) rfl) (fldK K rfl (pv 1) rfl) (nomark _)) (pe_one (pe_cmpR op_eq (fldK K rfl (pv 0) rfl) (fldK K rfl (pv 1) rfl) (nomark _))))))), ?_⟩
    rcases q with ⟨w2, G2, q⟩ | ⟨hu, q⟩
    · obtain ⟨⟨p2, dx2, t2, rfl, ho2, ht2⟩, hrw2⟩ := id G2
      refine ⟨_, rfl, .ref p2, .ref T.C_Grid, _, _, true, rfl, .own _, .base (.ins ho2 T.cl_Grid T.kc_Grid T.kg_Grid T.kt_Grid T.km_Grid), ?_, true, rfl, ?_⟩
      · unfold PySem.W.kitOne
        rw [if_pos (beq_self_eq_true _)]
      refine iteT ?_
      refine ⟨_, rfl, p, T.C_Grid, dx, _, _, rfl, ho, T.cl_Grid, T.n_rows, flds_rows _ _, _, rfl, p2, T.C_Grid, dx2, _, _, rfl, ho2, T.cl_Grid, T.n_rows, flds_rows _ _, eq_rows ht ht2 ⟨_, rfl, ?_⟩⟩
      by_cases hm : m = m2
      · rw [decide_eq_true hm]
        refine iteT ?_
        refine ⟨_, rfl, p, T.C_Grid, dx, _, _, rfl, ho, T.cl_Grid, T.n_width, flds_width _ _, _, rfl, p2, T.C_Grid, dx2, _, _, rfl, ho2, T.cl_Grid, T.n_width, flds_width _ _, rfl, ?_⟩
        have e : decide (V.int (n : Int) = V.int (w2 : Int)) = decide (m = m2 ∧ n = w2) := by
          by_cases hw : n = w2
          · rw [decide_eq_true (show m = m2 ∧ n = w2 from ⟨hm, hw⟩), decide_eq_true (by rw [hw])]
          · rw [decide_eq_false (fun z : m = m2 ∧ n = w2 => hw z.2), decide_eq_false (fun z => hw (by have := V.int.inj z; omega))]
        show Q (.bl (decide (V.int (n : Int) = V.int (w2 : Int)))) H
        rw [e]
        exact q
      · rw [decide_eq_false hm]
        refine iteF ?_
        rw [decide_eq_false (fun z : m = m2 ∧ n = w2 => hm z.1)] at q
        exact q
    · obtain ⟨a, ws, rfl, hs, hp⟩ := id hu
      refine ⟨_, rfl, .ref a, .ref T.C_Grid, _, _, false, rfl, .own _, row_ty hs, ?_, false, rfl, ?_⟩
      · show (if (Value.type "tuple" == Value.ref T.C_Grid) = true then some true else if ((PySem.W.clsIn K T.C_Grid).isSome && PySem.W.typeIn K (.ref T.C_Grid) == some (.type "type")) = true then PySem.W.subIn K (.type "tuple") (.ref T.C_Grid) else none) = some false
        have e2 : ((PySem.W.clsIn K T.C_Grid).isSome && PySem.W.typeIn K (.ref T.C_Grid) == some (.type "type")) = true := by
          have e := T.ic_Grid
          have e' : (PySem.W.clsIn K T.C_Grid).isSome = true := e
          rw [e', T.ty_Grid] <;> rfl
        rw [if_neg (by simp), if_pos e2]
        exact tup_not
      exact iteF q
/-! ### stacked -/
theorem paired_app {α β : Type} {F : α → β → Prop} : ∀ {xs : List α} {ys : List β} {xs2 : List α} {ys2 : List β}, Paired F xs ys → Paired F xs2 ys2 → Paired F (xs ++ xs2) (ys ++ ys2)
  | _, _, _, _, .nil, h => h
  | _, _, _, _, .cons r t, h => .cons r (paired_app t h)
def sp_Grid_stacked (K : PySem.W.Frag) (C : Addr) : Sp := fun vs H Q _ => ∃ v m w u m2, vs = [v, u] ∧ IsGrid K C H v m w ∧ IsGrid K C H u m2 w ∧ m.length + m2.length ≤ 1000 ∧ w ≤ 1000 ∧ ∀ g H', Same H H' → IsGrid K C H' g (m ++ m2) w → Q g H'
theorem ok_Grid_stacked (T : Top K mg) (hN : base.NoSeer) (hT : P.given.tree = none) : FnOk P w K mg base CX0 5 T.a_Grid_stacked T.d_Grid_stacked ["self", "b"] (sp_Grid_stacked K T.C_Grid) := by
  refine T.F_Grid_stacked.ok sc_Grid_stacked (fun vs H Q E h => ?_) (fun cdv A outer s H vs Q E hr h => ?_)
  · obtain ⟨v, m, w, u, m2, rfl, _⟩ := h
    rfl
  · obtain ⟨v, m, n, u, m2, rfl, G, G2, hl, hw, q⟩ := h
    obtain ⟨⟨p, dx, t, rfl, ho, ⟨a, ws, rfl, hs, hp⟩⟩, hrw⟩ := id G
    obtain ⟨⟨p2, dx2, t2, rfl, ho2, ⟨a2, ws2, rfl, hs2, hp2⟩⟩, hrw2⟩ := id G2
    have lw := Paired.length hp
    have lw2 := Paired.length hp2
    refine ⟨_, (pss_cons (ps_if (pt_cmpR op_ne (fldK K rfl (pv 0) rfl) (fldK K rfl (pv 1) rfl) (nomark _))
      (pss_one ps_never)
      pss_nil)
      (pss_one (ps_ret (pe_mk (mak_Grid T hN hT) hr (by decide) (by rfl) (pa_cons (pe_op (catK K rfl) (fldK K rfl (pv 0) rfl) (fldK K rfl (pv 1) rfl)) (pa_cons (fldK K rfl (pv 0) rfl) pa_nil)))))), ?_⟩
    refine ⟨_, rfl, p, T.C_Grid, dx, _, _, rfl, ho, T.cl_Grid, T.n_width, flds_width _ _, _, rfl, p2, T.C_Grid, dx2, _, _, rfl, ho2, T.cl_Grid, T.n_width, flds_width _ _, rfl, _, rfl, ?_⟩
    rw [decide_eq_true rfl]
    refine iteF ?_
    refine ⟨_, rfl, p, T.C_Grid, dx, _, _, rfl, ho, T.cl_Grid, T.n_rows, flds_rows _ _, _, rfl, p2, T.C_Grid, dx2, _, _, rfl, ho2, T.cl_Grid, T.n_rows, flds_rows _ _, ?_⟩
    refine catA hs hs2 (by omega) fun p3 H1 s1 t3 => ?_
    have hrows : TRows K H1 (.ref p3) (m ++ m2) := ⟨p3, _, rfl, t3, L2.Paired.mapP (paired_app hp hp2) fun _ _ => TRow.same s1⟩
    refine ⟨_, rfl, p, T.C_Grid, dx, _, _, rfl, s1 _ _ ho, T.cl_Grid, T.n_width, flds_width _ _, ?_⟩
    exact make_grid hrows.rows (by rw [List.length_append]; exact hl) hw (fun r hr => (List.mem_append.mp hr).elim (hrw r) (hrw2 r)) fun g H' s' G' => q g H' (s1.trans s') G'
theorem met_Grid_stacked (T : Top K mg) (hN : base.NoSeer) (hT : P.given.tree = none) : Met P w K mg base 5 T.C_Grid "stacked" (sp_Grid_stacked K T.C_Grid) [] := ⟨⟨_, _, _, [], T.cl_Grid, T.m_Grid_stacked, ok_Grid_stacked T hN hT, T.b_Grid_stacked, .nil⟩⟩

end
end K01
namespace K01
open PySem PySem.Spec PyProof.Rows L2 Gm
open C8 (Cal Met Mak pe_c pe_mt pe_mt0 pe_mk)
section
variable {P : Program} {w : World} {K : PySem.W.Frag} {mg : Str → Option Value} {base : Heap}
/-! ### diagonal, unit -/
def diagM (ns : List Int) : List (List Int) := (List.range ns.length).map fun i => (List.range ns.length).map fun j => if i = j then ns.getD i 0 else 0
theorem diagM_len (ns : List Int) : (diagM ns).length = ns.length := by
  unfold diagM
  rw [List.length_map, List.length_range]
theorem diagM_row {ns : List Int} : ∀ r ∈ diagM ns, r.length = ns.length := fun r hr => by
  unfold diagM at hr
  obtain ⟨i, _, rfl⟩ := List.mem_map.mp hr
  rw [List.length_map, List.length_range]
theorem diagM_get {ns : List Int} {i : Nat} (h : i < ns.length) : (diagM ns).getD i [] = (List.range ns.length).map fun j => if i = j then ns.getD i 0 else 0 := by
  unfold diagM
  rw [List.getD_eq_getElem?_getD, List.getElem?_map, List.getElem?_range h]
  rfl
def sp_diagonal (K : PySem.W.Frag) (C : Addr) : Sp := fun vs H Q _ => ∃ v ns, vs = [v] ∧ IRow K H v ns ∧ ns.length ≤ 1000 ∧ ∀ g H', Same H H' → IsGrid K C H' g (diagM ns) ns.length → Q g H'
theorem ok_diagonal (T : Top K mg) (hN : base.NoSeer) (hT : P.given.tree = none) : FnOk P w K mg base CX0 5 T.a_diagonal T.d_diagonal ["numbers"] (sp_diagonal K T.C_Grid) := by
  refine T.F_diagonal.ok sc_diagonal (fun vs H Q E h => ?_) (fun cdv A outer s H vs Q E hr h => ?_)
  · obtain ⟨v, ns, rfl, _⟩ := h
    rfl
  · obtain ⟨v, ns, rfl, ⟨a, rfl, hs⟩, hl, q⟩ := h
    refine ⟨_, (pss_cons (ps_set (i := 1) sc_diagonal.nd rfl (by first | exact .inl rfl | exact .inr rfl) (pe_callTy (cr_range1) (by rfl) T.z_range (by decide +kernel) (pa_cons (pe_callB (lenS K rfl) (by rfl) T.z_len (by decide +kernel) (pa_cons (pv 0) pa_nil)) pa_nil)))
      (pss_one (ps_ret (pe_mk (mak_Grid T hN hT) hr (by decide) (by rfl) (pa_cons (pe_lc (own := [("i", 2)]) (g := (gName 2)) (by rfl) sc_diagonal.nd (pi_rngv (pv 1)) ((by show BlkOk ["numbers", "places", "i", "j"] (defScope s_diagonal) _ _; exact blkOk_by (by decide +kernel))) (fun _ _ _ _ _ => (pg_name (i := 2) sc_diagonal.nd rfl (by first | exact .inl rfl | exact .inr rfl))) (fun _ _ _ _ _ => pts_nil) (fun _ _ _ _ _ => (pe_lc (own := [("j", 3)]) (g := (gName 3)) (by rfl) sc_diagonal.nd (pi_rngv (pv 1)) ((by show BlkOk ["numbers", "places", "i", "j"] (relS _ (defScope s_diagonal)) _ _; exact blkOk_by (by decide +kernel))) (fun _ _ _ _ _ => (pg_name (i := 3) sc_diagonal.nd rfl (by first | exact .inl rfl | exact .inr rfl))) (fun _ _ _ _ _ => pts_nil) (fun _ _ _ _ _ => (pe_ifExp (pt_cmpR op_eq (pv 2) (pv 3) (nomark _)) (pe_ix (ixS K rfl) (pv 0) (pv 2) (fun _ _ => rfl)) pe_int))))) (pa_cons (pe_callB (lenS K rfl) (by rfl) T.z_len (by decide +kernel) (pa_cons (pv 0) pa_nil)) pa_nil)))))), ?_⟩
    refine ⟨_, rfl, a, _, rfl, hs, _, rfl, fun pr npr => ?_⟩
    have s1 : Same H (upd H pr (.rng 0 ((ns.map V.int).length : Nat))) := same_upd npr
    refine ⟨_, rfl, pr, _, _, rfl, upd_same, ⟨by decide, by decide, by rw [List.length_map]; omega, by rw [List.length_map]; omega⟩, fun D hD => ?_⟩
    refine lc_all walk_range hD (by rw [List.length_map]; omega) (fun _ _ => trivial) (fun i v H4 => ∃ p, v = V.ref p ∧ p ≠ D ∧ H4 p = some (.lst (((diagM ns).getD i []).map V.int))) lists_mono ?_ gm_name ?_
    · rintro i x H4 H4' acc Ko hi s4 eD ⟨rfl, rfl⟩ k
      rw [List.length_map] at hi
      have hi' : i < ns.length := by omega
      refine ⟨rfl, ?_⟩
      have epr : H4' pr = some (.rng 0 ((ns.map V.int).length : Nat)) := s4 _ _ upd_same
      refine ⟨_, rfl, pr, _, _, rfl, epr, ⟨by decide, by decide, by rw [List.length_map]; omega, by rw [List.length_map]; omega⟩, fun D2 hD2 => ?_⟩
      refine lc_all walk_range hD2 (by rw [List.length_map]; omega) (fun _ _ => trivial) (fun j v _ => ∃ z, ((diagM ns).getD i [])[j]? = some z ∧ v = .int z) (fun _ _ _ _ _ _ _ h => h) ?_ gm_name ?_
      · rintro j y H5 H5' acc2 Ko2 hj s5 eD2 ⟨rfl, rfl⟩ k2
        rw [List.length_map] at hj
        have hj' : j < ns.length := by omega
        refine ⟨rfl, ?_⟩
        refine ⟨_, rfl, _, rfl, rfl, _, rfl, ?_⟩
        by_cases h : i = j
        · subst h
          rw [decide_eq_true rfl]
          refine iteT ?_
          refine ⟨_, rfl, _, rfl, ?_⟩
          refine rIx_seq (hs.same (s1.trans (s4.trans s5))) (at_of (j := i) (by omega) (ints_at (List.getElem?_eq_getElem hi'))) ?_
          refine k2 _ _ (Same.refl _) ⟨ns[i], ?_, rfl⟩
          rw [diagM_get hi', List.getElem?_map, List.getElem?_range hi']
          show some (if i = i then ns.getD i 0 else 0) = some ns[i]
          rw [if_pos rfl, List.getD_eq_getElem?_getD, List.getElem?_eq_getElem hi']
          rfl
        · rw [show decide (V.int (0 + (i : Int)) = V.int (0 + (j : Int))) = false from decide_eq_false fun z => h (by have := V.int.inj z; omega)]
          refine iteF ?_
          refine k2 _ _ (Same.refl _) ⟨0, ?_, rfl⟩
          rw [diagM_get hi', List.getElem?_map, List.getElem?_range hj']
          show some (if i = j then ns.getD i 0 else 0) = some 0
          rw [if_neg h]
      · intro H5 l s5 eD2 hpl
        have el := ints_list (by rw [diagM_get hi', List.length_map, List.length_map, List.length_range]; omega) hpl
        refine k _ _ s5 ⟨D2, rfl, ?_, by rw [← el]; exact eD2⟩
        rintro rfl
        rw [eD] at hD2
        cases hD2
    · intro H4 l s4 eD hpl
      have hrows := lists_rows (K := K) (m := diagM ns) (by rw [diagM_len, List.length_map]; omega) eD hpl
      have sm := s1.trans s4
      refine ⟨_, rfl, a, _, rfl, hs.same sm, ?_⟩
      rw [List.length_map]
      exact make_grid hrows (by rw [diagM_len]; exact hl) hl diagM_row fun g H' s' G' => q g H' (sm.trans s') G'
theorem cal_diagonal (T : Top K mg) (hN : base.NoSeer) (hT : P.given.tree = none) : Cal P w K mg base 5 "diagonal" (sp_diagonal K T.C_Grid) [] := ⟨⟨_, _, _, [], ok_diagonal T hN hT, T.g_diagonal, T.F_diagonal.kp, T.b_diagonal, .nil⟩⟩

end
end K01
namespace K01
open PySem PySem.Spec PyProof.Rows L2 Gm
open C8 (Cal Met Mak pe_c pe_mt pe_mt0 pe_mk)
section
variable {P : Program} {w : World} {K : PySem.W.Frag} {mg : Str → Option Value} {base : Heap}
theorem rep_ints (c : Int) : ∀ n : Nat, (List.replicate n [V.int c]).flatten = (List.replicate n c).map V.int
  | 0 => rfl
  | n + 1 => by
    rw [List.replicate_succ, List.flatten_cons, rep_ints c n, List.replicate_succ]
    rfl
def sp_unit (K : PySem.W.Frag) (C : Addr) : Sp := fun vs H Q _ => ∃ n : Nat, vs = [.int n] ∧ n ≤ 1000 ∧ ∀ g H', Same H H' → IsGrid K C H' g (diagM (List.replicate n 1)) n → Q g H'
theorem ok_unit (T : Top K mg) (hN : base.NoSeer) (hT : P.given.tree = none) : FnOk P w K mg base CX0 6 T.a_unit T.d_unit ["n"] (sp_unit K T.C_Grid) := by
  refine T.F_unit.ok sc_unit (fun vs H Q E h => ?_) (fun cdv A outer s H vs Q E hr h => ?_)
  · obtain ⟨n, rfl, _⟩ := h
    rfl
  · obtain ⟨n, rfl, hn, q⟩ := h
    refine ⟨_, (pss_one (ps_ret (pe_c (cal_diagonal T hN hT) hr (by decide) (by rfl) (pa_cons (pe_op op_rep (pe_lst (pa_cons pe_int pa_nil)) (pv 0)) pa_nil)))), ?_⟩
    refine ⟨by show 1 ≤ sizeLine; decide, fun l nl => ?_⟩
    refine ⟨_, rfl, l, (n : Int), [.int 1], rfl, rfl, upd_same, by omega, by omega, ?_, fun p np => ?_⟩
    · rw [Int.toNat_natCast, List.length_singleton, Nat.one_mul]
      exact Nat.le_of_lt (small1000 hn)
    · have e : (List.replicate ((n : Int)).toNat [V.int 1]).flatten = (List.replicate n (1 : Int)).map V.int := by
        rw [Int.toNat_natCast]
        exact rep_ints 1 n
      rw [e]
      have s2 : Same H (upd (upd H l (.lst [.int 1])) p (.lst ((List.replicate n (1 : Int)).map V.int))) := (same_upd nl).trans (same_upd np)
      refine ⟨_, List.replicate n 1, rfl, ⟨p, rfl, .inl (.inl (.inl upd_same))⟩, by rw [List.length_replicate]; exact hn, fun g H' s' G => ?_⟩
      rw [List.length_replicate] at G
      exact q g H' (s2.trans s') G
theorem cal_unit (T : Top K mg) (hN : base.NoSeer) (hT : P.given.tree = none) : Cal P w K mg base 6 "unit" (sp_unit K T.C_Grid) [] := ⟨⟨_, _, _, [], ok_unit T hN hT, T.g_unit, T.F_unit.kp, T.b_unit, .nil⟩⟩
/-! ### sizes -/
def sp_check_same_size (K : PySem.W.Frag) (C : Addr) : Sp := fun vs H Q _ => ∃ v m w u m2, vs = [v, u] ∧ IsGrid K C H v m w ∧ IsGrid K C H u m2 w ∧ m.length = m2.length ∧ Q .non H
theorem ok_check_same_size (T : Top K mg) (hN : base.NoSeer) (hT : P.given.tree = none) : FnOk P w K mg base CX0 1 T.a_check_same_size T.d_check_same_size ["a", "b"] (sp_check_same_size K T.C_Grid) := by
  refine T.F_check_same_size.ok sc_check_same_size (fun vs H Q E h => ?_) (fun cdv A outer s H vs Q E hr h => ?_)
  · obtain ⟨v, m, w, u, m2, rfl, _⟩ := h
    rfl
  · obtain ⟨v, m, n, u, m2, rfl, G, G2, hl, q⟩ := h
    obtain ⟨⟨p, dx, t, rfl, ho, ⟨a, ws, rfl, hs, hp⟩⟩, hrw⟩ := id G
    obtain ⟨⟨p2, dx2, t2, rfl, ho2, ⟨a2, ws2, rfl, hs2, hp2⟩⟩, hrw2⟩ := id G2
    have lw := Paired.length hp
    have lw2 := Paired.length hp2
    refine ⟨_, (pss_one (ps_if (PW.pt (pw_or (pt_cmpR op_ne (pe_callB (lenS K rfl) (by rfl) T.z_len (by decide +kernel) (pa_cons (fldK K rfl (pv 0) rfl) pa_nil)) (pe_callB (lenS K rfl) (by rfl) T.z_len (by decide +kernel) (pa_cons (fldK K rfl (pv 1) rfl) pa_nil)) (nomark _)) (pw_or1 (pt_cmpR op_ne (fldK K rfl (pv 0) rfl) (fldK K rfl (pv 1) rfl) (nomark _)))))
      (pss_one ps_never)
      pss_nil)), ?_⟩
    refine ⟨_, rfl, p, T.C_Grid, dx, _, _, rfl, ho, T.cl_Grid, T.n_rows, flds_rows _ _, a, ws, rfl, .inr hs, _, rfl, p2, T.C_Grid, dx2, _, _, rfl, ho2, T.cl_Grid, T.n_rows, flds_rows _ _, a2, ws2, rfl, .inr hs2, rfl, _, rfl, ?_⟩
    rw [lw, lw2, hl, decide_eq_true rfl]
    refine iteF ?_
    refine ⟨_, rfl, p, T.C_Grid, dx, _, _, rfl, ho, T.cl_Grid, T.n_width, flds_width _ _, _, rfl, p2, T.C_Grid, dx2, _, _, rfl, ho2, T.cl_Grid, T.n_width, flds_width _ _, rfl, _, rfl, ?_⟩
    rw [decide_eq_true rfl]
    exact iteF q
theorem cal_check_same_size (T : Top K mg) (hN : base.NoSeer) (hT : P.given.tree = none) : Cal P w K mg base 1 "check_same_size" (sp_check_same_size K T.C_Grid) [] := ⟨⟨_, _, _, [], ok_check_same_size T hN hT, T.g_check_same_size, T.F_check_same_size.kp, T.b_check_same_size, .nil⟩⟩

end
end K01
namespace K01
open PySem PySem.Spec PyProof.Rows L2 Gm
open C8 (Cal Met Mak pe_c pe_mt pe_mt0 pe_mk)
section
variable {P : Program} {w : World} {K : PySem.W.Frag} {mg : Str → Option Value} {base : Heap}
theorem make_grid2 {K : PySem.W.Frag} {C x dx : Addr} {H1 : Hp} {v : V} {m : List (List Int)} {w : Nat} {Q : VK} {E : XK} (nx : H1 x = none) (nd : H1 dx = none) (hm : IRows K H1 v m) (hl : m.length ≤ 1000) (hw : w ≤ 1000) (hrw : ∀ r ∈ m, r.length = w) (q : ∀ H', Same H1 H' → IsGrid K C H' (.ref x) m w → Q .non H') :
    sp_Grid_init K C [.ref x, v, .int w] (upd (upd H1 dx (.own x)) x (.ins C dx [])) Q E := by
  have s0 : Same H1 (upd (upd H1 dx (.own x)) x (.ins C dx [])) := fun b o e => by
    rw [upd_ne (ne_of_none e nx), upd_ne (ne_of_none e nd)]
    exact e
  refine ⟨x, dx, v, m, w, rfl, upd_same, hm.same s0, hl, hw, hrw, fun t H' o ho ht => ?_⟩
  exact q _ (fun b u e => o _ _ (ne_of_none e nx) (s0 _ _ e)) ⟨⟨x, dx, t, rfl, ho, ht⟩, hrw⟩
/-! ### blocks -/
theorem rep_zero {K : PySem.W.Frag} {H : Hp} {l : Addr} {n : Nat} {Q : VK} (hT : SqT K H l [V.int 0]) (hn : n ≤ 1000) (q : ∀ p H', Same H H' → SqT K H' p ((List.replicate n (0 : Int)).map V.int) → Q (.ref p) H') : rRepA K (.ref l) (.int n) H Q := by
  refine ⟨l, n, [.int 0], rfl, rfl, hT, by simp, by omega, by omega, by simp, fun h => ?_, fun _ p np => ?_⟩
  · obtain rfl : n = 1 := by omega
    exact q l H (Same.refl _) hT
  · refine q p _ (same_upd np) (.inl (.inl ?_))
    rw [upd_same, Int.toNat_natCast, rep_ints 0 n]
def highM (m : List (List Int)) (w2 : Nat) : List (List Int) := m.map fun r => r ++ List.replicate w2 0
def lowM (m : List (List Int)) (w1 : Nat) : List (List Int) := m.map fun r => List.replicate w1 0 ++ r
def sp_blocks (K : PySem.W.Frag) (C : Addr) : Sp := fun vs H Q _ => ∃ v m w u m2 w2, vs = [v, u] ∧ IsGrid K C H v m w ∧ IsGrid K C H u m2 w2 ∧ m.length + m2.length ≤ 1000 ∧ w + w2 ≤ 1000 ∧ ∀ g H', Same H H' → IsGrid K C H' g (highM m w2 ++ lowM m2 w) (w + w2) → Q g H'
theorem ok_blocks (T : Top K mg) (hN : base.NoSeer) (hT : P.given.tree = none) : FnOk P w K mg base CX0 5 T.a_blocks T.d_blocks ["a", "b"] (sp_blocks K T.C_Grid) := by
  refine T.F_blocks.ok sc_blocks (fun vs H Q E h => ?_) (fun cdv A outer s H vs Q E hr h => ?_)
  · obtain ⟨v, m, w, u, m2, w2, rfl, _⟩ := h
    rfl
  · obtain ⟨v, m, n, u, m2, n2, rfl, G, G2, hl, hw, q⟩ := h
    obtain ⟨⟨p, dx, t, rfl, ho, ⟨a, ws, rfl, hs, hp⟩⟩, hrw⟩ := id G
    obtain ⟨⟨p2, dx2, t2, rfl, ho2, ⟨a2, ws2, rfl, hs2, hp2⟩⟩, hrw2⟩ := id G2
    have lw := Paired.length hp
    have lw2 := Paired.length hp2
    refine ⟨_, (pss_cons (ps_setLc (i := 2) (own := [("row", 4)]) (g := (gName 4)) (by rfl) sc_blocks.nd rfl rfl (sw_true rfl rfl rfl (by decide +kernel)) (piS K rfl (fldK K rfl (pv 0) rfl)) ((by show BlkOk ["a", "b", "high", "low", "row"] (defScope s_blocks) _ _; exact blkOk_by (by decide +kernel))) (fun _ _ _ _ _ => (pg_name (i := 4) sc_blocks.nd rfl (by first | exact .inl rfl | exact .inr rfl))) (fun _ _ _ _ _ => pts_nil) (fun _ _ _ _ _ => (pe_op (catK K rfl) (pv 4) (pe_op (repAK K rfl) (pe_tup (pa_cons pe_int pa_nil)) (fldK K rfl (pv 1) rfl)))))
      (pss_cons (ps_setLc (i := 3) (own := [("row", 4)]) (g := (gName 4)) (by rfl) sc_blocks.nd rfl rfl (sw_true rfl rfl rfl (by decide +kernel)) (piS K rfl (fldK K rfl (pv 1) rfl)) ((by show BlkOk ["a", "b", "high", "low", "row"] (defScope s_blocks) _ _; exact blkOk_by (by decide +kernel))) (fun _ _ _ _ _ => (pg_name (i := 4) sc_blocks.nd rfl (by first | exact .inl rfl | exact .inr rfl))) (fun _ _ _ _ _ => pts_nil) (fun _ _ _ _ _ => (pe_op (catK K rfl) (pe_op (repAK K rfl) (pe_tup (pa_cons pe_int pa_nil)) (fldK K rfl (pv 0) rfl)) (pv 4))))
      (pss_one (ps_ret (pe_mk (mak_Grid T hN hT) hr (by decide) (by rfl) (pa_cons (pe_op op_cat (pv 2) (pv 3)) (pa_cons (pe_op op_add (fldK K rfl (pv 0) rfl) (fldK K rfl (pv 1) rfl)) pa_nil))))))), ?_⟩
    -- high
    refine ⟨_, rfl, p, T.C_Grid, dx, _, _, rfl, ho, T.cl_Grid, T.n_rows, flds_rows _ _, a, ws, rfl, .inr hs, fun J G0 W hG D hD => ?_⟩
    refine lc_all W hD (by omega) (fun H4 s4 => hG H4 fun b _ o => s4 b o) (fun i v H4 => ∃ r, (highM m n2)[i]? = some r ∧ TRow K H4 v r) (fun j v H7 H8 acc e o ⟨r, er, h⟩ => ⟨r, er, TRow.off e o h⟩) ?_ gm_name ?_
    · rintro i x H4 H4' acc Ko hi s4 eD ⟨rfl, ex⟩ k
      obtain ⟨r, er, b, rfl, hb⟩ := Paired.getR hp ex
      have hrl := hrw r (List.mem_of_getElem? er)
      refine ⟨rfl, ?_⟩
      refine ⟨_, rfl, ?_⟩
      refine ⟨by show 1 ≤ sizeLine; decide, fun t0 n0 => ?_⟩
      have s5 := same_upd (o := .tup [.int 0]) n0
      refine ⟨_, rfl, p2, T.C_Grid, dx2, _, _, rfl, s5 _ _ (s4 _ _ ho2), T.cl_Grid, T.n_width, flds_width _ _, ?_⟩
      refine rep_zero (.inl (.inl upd_same)) (by omega) fun z H6 s6 hz => ?_
      refine catA (Same.seqT (s4.trans (s5.trans s6)) hb) hz (by rw [List.length_map, List.length_map, List.length_replicate]; omega) fun z2 H7 s7 h7 => ?_
      refine k _ _ (s5.trans (s6.trans s7)) ⟨r ++ List.replicate n2 0, ?_, z2, rfl, by rw [List.map_append]; exact h7⟩
      unfold highM
      rw [List.getElem?_map, er]
      rfl
    · intro H4 l s4 eD hpl
      have hpH : Paired (TRow K H4) l (highM m n2) := paired_at (m := highM m n2) (by unfold highM; rw [List.length_map, lw]) hpl
      -- low
      refine ⟨_, rfl, p2, T.C_Grid, dx2, _, _, rfl, s4 _ _ ho2, T.cl_Grid, T.n_rows, flds_rows _ _, a2, ws2, rfl, .inr (Same.seqT s4 hs2), fun J2 G02 W2 hG2 D2 hD2 => ?_⟩
      have hDD : D ≠ D2 := by
        rintro rfl
        rw [eD] at hD2
        cases hD2
      refine lc_all W2 hD2 (by omega) (fun H5 s5 => hG2 H5 fun b _ o => s5 b o) (fun i v H5 => ∃ r, (lowM m2 n)[i]? = some r ∧ TRow K H5 v r) (fun j v H7 H8 acc e o ⟨r, er, h⟩ => ⟨r, er, TRow.off e o h⟩) ?_ gm_name ?_
      · rintro i x H5 H5' acc Ko hi s5 eD2 ⟨rfl, ex⟩ k
        obtain ⟨r, er, b, rfl, hb⟩ := Paired.getR hp2 ex
        have hrl := hrw2 r (List.mem_of_getElem? er)
        have s45 := s4.trans s5
        refine ⟨rfl, ?_⟩
        refine ⟨by show 1 ≤ sizeLine; decide, fun t0 n0 => ?_⟩
        have s6 := same_upd (o := .tup [.int 0]) n0
        refine ⟨_, rfl, p, T.C_Grid, dx, _, _, rfl, s6 _ _ (s45 _ _ ho), T.cl_Grid, T.n_width, flds_width _ _, ?_⟩
        refine rep_zero (.inl (.inl upd_same)) (by omega) fun z H6 s7 hz => ?_
        refine ⟨_, rfl, ?_⟩
        refine catA hz (Same.seqT (s45.trans (s6.trans s7)) hb) (by rw [List.length_map, List.length_map, List.length_replicate]; omega) fun z2 H7 s8 h8 => ?_
        refine k _ _ (s6.trans (s7.trans s8)) ⟨List.replicate n 0 ++ r, ?_, z2, rfl, by rw [List.map_append]; exact h8⟩
        unfold lowM
        rw [List.getElem?_map, er]
        rfl
      · intro H5 l2 s5 eD2 hpl2
        have hpL : Paired (TRow K H5) l2 (lowM m2 n) := paired_at (m := lowM m2 n) (by unfold lowM; rw [List.length_map, lw2]) hpl2
        have eD5 : H5 D = some (.lst l) := s5 _ _ eD
        have sm := s4.trans s5
        have ll := Paired.length hpH
        have ll2 := Paired.length hpL
        have lh : (highM m n2).length = m.length := by unfold highM; rw [List.length_map]
        have lo : (lowM m2 n).length = m2.length := by unfold lowM; rw [List.length_map]
        refine ⟨_, rfl, _, rfl, D, D2, l, l2, rfl, rfl, eD5, eD2, Nat.le_of_lt (small1000 (by omega)), fun z nz => ?_⟩
        have s6 := same_upd (o := .lst (l ++ l2)) nz
        have hrows : IRows K (upd H5 z (.lst (l ++ l2))) (.ref z) (highM m n2 ++ lowM m2 n) := ⟨z, _, rfl, .inl (.inl (.inl upd_same)), paired_app (L2.Paired.mapP hpH fun _ _ r => (TRow.same (s5.trans s6) r).row) (L2.Paired.mapP hpL fun _ _ r => (TRow.same s6 r).row)⟩
        refine ⟨_, rfl, p, T.C_Grid, dx, _, _, rfl, s6 _ _ (sm _ _ ho), T.cl_Grid, T.n_width, flds_width _ _, _, rfl, p2, T.C_Grid, dx2, _, _, rfl, s6 _ _ (sm _ _ ho2), T.cl_Grid, T.n_width, flds_width _ _, _, _, rfl, rfl, ?_⟩
        intro g dg ng ndg neg
        refine make_grid2 (C := T.C_Grid) (m := highM m n2 ++ lowM m2 n) (w := n + n2) ng ndg hrows (by rw [List.length_append]; omega) hw (fun r hr => ?_) fun H6 s7 G6 => ⟨rfl, q _ _ (sm.trans (s6.trans s7)) G6⟩
        rcases List.mem_append.mp hr with h1 | h1
        · obtain ⟨r0, h0, rfl⟩ := List.mem_map.mp h1
          rw [List.length_append, List.length_replicate, hrw r0 h0]
        · obtain ⟨r0, h0, rfl⟩ := List.mem_map.mp h1
          rw [List.length_append, List.length_replicate, hrw2 r0 h0]
theorem cal_blocks (T : Top K mg) (hN : base.NoSeer) (hT : P.given.tree = none) : Cal P w K mg base 5 "blocks" (sp_blocks K T.C_Grid) [] := ⟨⟨_, _, _, [], ok_blocks T hN hT, T.g_blocks, T.F_blocks.kp, T.b_blocks, .nil⟩⟩

end
end K01
namespace K01
open PySem PySem.Spec PyProof.Rows L2 Gm
open C8 (Cal Met Mak pe_c pe_mt pe_mt0 pe_mk)
section
variable {P : Program} {w : World} {K : PySem.W.Frag} {mg : Str → Option Value} {base : Heap}
/-! ### what raises -/
theorem bools_list : ∀ {is : List Nat} {l : List V} {f : Nat → Bool}, Paired (fun i v => v = V.bl (f i)) is l → l = (is.map f).map V.bl
  | _, _, _, .nil => rfl
  | _, _, _, .cons r t => by
    rw [r, bools_list t]
    rfl
theorem not_all {f : Nat → Bool} {n i : Nat} (hi : i < n) (h : f i = false) : ((List.range n).map f).all id = false := by
  rw [List.all_eq_false]
  exact ⟨false, List.mem_map.mpr ⟨i, List.mem_range.mpr hi, h⟩, by simp⟩
def sp_checked_width_X (K : PySem.W.Frag) (X : Addr) : Sp := fun vs H _ E => ∃ (v : V) (m : List (List Int)) (w i : Nat), vs = [v, .int w] ∧ TRows K H v m ∧ m.length ≤ 1000 ∧ (∃ r, m[i]? = some r ∧ r.length ≠ w) ∧ ∀ H', Same H H' → E (.ref X) none H'
theorem ok_checked_width_X (T : Top K mg) (hN : base.NoSeer) (hT : P.given.tree = none) : FnOk P w K mg base (L2.CX P w) 2 T.a_checked_width T.d_checked_width ["rows", "width"] (sp_checked_width_X K T.X_Malformed) := by
  refine T.F_checked_width.okX sc_checked_width (fun vs H Q E h => ?_) (fun cdv A outer s H vs Q E hr h => ?_)
  · obtain ⟨v, m, w, i, rfl, _⟩ := h
    rfl
  · obtain ⟨v, m, w, i0, rfl, hm, hl, ⟨r0, er0, hr0⟩, q⟩ := h
    obtain ⟨a, ws, rfl, hs, hp⟩ := id hm
    have lw := Paired.length hp
    refine ⟨_, (pss_cons (ps_if (pt_cmpR op_isN (pv 1) pe_non (nomark _))
      (pss_one (ps_set (i := 1) sc_checked_width.nd rfl (by first | exact .inl rfl | exact .inr rfl) (pe_ifExp (pt_cmpR op_gt (pe_callB (lenS K rfl) (by rfl) T.z_len (by decide +kernel) (pa_cons (pv 0) pa_nil)) pe_int (nomark _)) (pe_callB (lenS K rfl) (by rfl) T.z_len (by decide +kernel) (pa_cons (pe_ix (ixT K rfl) (pv 0) pe_int (fun _ _ => rfl)) pa_nil)) pe_int)))
      pss_nil)
      (pss_cons (ps_if (PW.pt (pw_or (pt_not (pt_val (pe_c (cal_is_integer T hN hT) hr (by decide) (by rfl) (pa_cons (pv 1) pa_nil)))) (pw_or1 (pt_cmpR op_lt (pv 1) pe_int (nomark _)))))
      (pss_one ps_never)
      pss_nil)
      (pss_cons (ps_if (pt_not (pt_val (pe_callB (allK K rfl rfl) (by rfl) T.z_all (by decide +kernel) (pa_cons (pe_lc (own := [("row", 2)]) (g := (gName 2)) (by rfl) sc_checked_width.nd (piS K rfl (pv 0)) ((by show BlkOk ["rows", "width", "row"] (defScope s_checked_width) _ _; exact blkOk_by (by decide +kernel))) (fun _ _ _ _ _ => (pg_name (i := 2) sc_checked_width.nd rfl (by first | exact .inl rfl | exact .inr rfl))) (fun _ _ _ _ _ => pts_nil) (fun _ _ _ _ _ => (pe_cmpR op_eq (pe_callB (lenS K rfl) (by rfl) T.z_len (by decide +kernel) (pa_cons (pv 2) pa_nil)) (pv 1) (nomark _)))) pa_nil))))
      (pss_one (ps_raise rfl (takes_of rfl rfl rfl rfl) (pmk_own PySem.F.excBase_ValueError T.xX_Malformed T.gX_Malformed T.kX_Malformed (raises_own T.bX_Malformed T.tX_Malformed) (by exact rfl))))
      pss_nil)
      (pss_one (ps_ret (pv 1)))))), ?_⟩
    refine ⟨_, rfl, rfl, _, rfl, ?_⟩
    rw [show decide (V.int (w : Int) = V.non) = false from decide_eq_false fun z => by cases z]
    refine iteF ?_
    refine ⟨_, rfl, _, rfl, true, rfl, iteF ⟨_, rfl, _, _, rfl, rfl, _, rfl, ?_⟩⟩
    rw [decide_eq_false (by omega)]
    refine iteF ?_
    refine ⟨_, rfl, a, ws, rfl, .inr hs, fun J2 G2 W2 hG2 D hD => ?_⟩
    refine lc_all W2 hD (by omega) (fun H4 s4 => hG2 H4 fun b _ o => s4 b o) (fun i v _ => v = .bl (decide ((m.getD i []).length = w))) (fun _ _ _ _ _ _ _ h => h) ?_ gm_name ?_
    · rintro i x H4 H4' acc Ko hi s4 eD ⟨rfl, ex⟩ k
      obtain ⟨r, er, b, rfl, hb⟩ := Paired.getR hp ex
      refine ⟨rfl, ?_⟩
      refine ⟨_, rfl, b, _, rfl, .inr (Same.seqT s4 hb), _, rfl, rfl, ?_⟩
      refine k _ _ (Same.refl _) ?_
      rw [List.getD_eq_getElem?_getD, er, List.length_map]
      show V.bl (decide (V.int (r.length : Int) = V.int (w : Int))) = V.bl (decide (r.length = w))
      refine congrArg V.bl ?_
      by_cases h : r.length = w
      · rw [decide_eq_true h, decide_eq_true (by rw [h])]
      · rw [decide_eq_false h, decide_eq_false (fun z => h (by have := V.int.inj z; omega))]
    · intro H4 l s4 eD hl2
      refine ⟨D, (List.range ws.length).map fun i => decide ((m.getD i []).length = w), rfl, .inl (.inl (by rw [← bools_list hl2]; exact eD)), false, ?_, ?_⟩
      · have hi0 : i0 < m.length := (List.getElem?_eq_some_iff.mp er0).1
        rw [not_all (i := i0) (by omega) (by rw [List.getD_eq_getElem?_getD, er0]; exact decide_eq_false hr0)]
      · refine iteT ?_
        exact q _ s4
def sp_stacked_X (K : PySem.W.Frag) (C X : Addr) : Sp := fun vs H _ E => ∃ v m w u m2 w2, vs = [v, u] ∧ IsGrid K C H v m w ∧ IsGrid K C H u m2 w2 ∧ w ≠ w2 ∧ E (.ref X) none H
theorem ok_stacked_X (T : Top K mg) (hN : base.NoSeer) (hT : P.given.tree = none) : FnOk P w K mg base (L2.CX P w) 5 T.a_Grid_stacked T.d_Grid_stacked ["self", "b"] (sp_stacked_X K T.C_Grid T.X_Malformed) := by
  refine T.F_Grid_stacked.okX sc_Grid_stacked (fun vs H Q E h => ?_) (fun cdv A outer s H vs Q E hr h => ?_)
  · obtain ⟨v, m, w, u, m2, w2, rfl, _⟩ := h
    rfl
  · obtain ⟨v, m, n, u, m2, n2, rfl, G, G2, hw, q⟩ := h
    obtain ⟨⟨p, dx, t, rfl, ho, ht⟩, hrw⟩ := id G
    obtain ⟨⟨p2, dx2, t2, rfl, ho2, ht2⟩, hrw2⟩ := id G2
    refine ⟨_, (pss_cons (ps_if (pt_cmpR op_ne (fldK K rfl (pv 0) rfl) (fldK K rfl (pv 1) rfl) (nomark _))
      (pss_one (ps_raise rfl (takes_of rfl rfl rfl rfl) (pmk_own PySem.F.excBase_ValueError T.xX_Malformed T.gX_Malformed T.kX_Malformed (raises_own T.bX_Malformed T.tX_Malformed) (by exact rfl))))
      pss_nil)
      (pss_one (ps_ret (pe_mk (mak_Grid T hN hT) hr (by decide) (by rfl) (pa_cons (pe_op (catK K rfl) (fldK K rfl (pv 0) rfl) (fldK K rfl (pv 1) rfl)) (pa_cons (fldK K rfl (pv 0) rfl) pa_nil)))))), ?_⟩
    refine ⟨_, rfl, p, T.C_Grid, dx, _, _, rfl, ho, T.cl_Grid, T.n_width, flds_width _ _, _, rfl, p2, T.C_Grid, dx2, _, _, rfl, ho2, T.cl_Grid, T.n_width, flds_width _ _, rfl, _, rfl, ?_⟩
    rw [show decide (V.int (n : Int) = V.int (n2 : Int)) = false from decide_eq_false fun z => hw (by have := V.int.inj z; omega)]
    exact iteT q
def sp_same_size_X (K : PySem.W.Frag) (C X : Addr) : Sp := fun vs H _ E => ∃ v m w u m2 w2, vs = [v, u] ∧ IsGrid K C H v m w ∧ IsGrid K C H u m2 w2 ∧ (m.length ≠ m2.length ∨ w ≠ w2) ∧ E (.ref X) none H
theorem ok_same_size_X (T : Top K mg) (hN : base.NoSeer) (hT : P.given.tree = none) : FnOk P w K mg base (L2.CX P w) 1 T.a_check_same_size T.d_check_same_size ["a", "b"] (sp_same_size_X K T.C_Grid T.X_Malformed) := by
  refine T.F_check_same_size.okX sc_check_same_size (fun vs H Q E h => ?_) (fun cdv A outer s H vs Q E hr h => ?_)
  · obtain ⟨v, m, w, u, m2, w2, rfl, _⟩ := h
    rfl
  · obtain ⟨v, m, n, u, m2, n2, rfl, G, G2, hd, q⟩ := h
    obtain ⟨⟨p, dx, t, rfl, ho, ⟨a, ws, rfl, hs, hp⟩⟩, hrw⟩ := id G
    obtain ⟨⟨p2, dx2, t2, rfl, ho2, ⟨a2, ws2, rfl, hs2, hp2⟩⟩, hrw2⟩ := id G2
    have lw := Paired.length hp
    have lw2 := Paired.length hp2
    refine ⟨_, (pss_one (ps_if (PW.pt (pw_or (pt_cmpR op_ne (pe_callB (lenS K rfl) (by rfl) T.z_len (by decide +kernel) (pa_cons (fldK K rfl (pv 0) rfl) pa_nil)) (pe_callB (lenS K rfl) (by rfl) T.z_len (by decide +kernel) (pa_cons (fldK K rfl (pv 1) rfl) pa_nil)) (nomark _)) (pw_or1 (pt_cmpR op_ne (fldK K rfl (pv 0) rfl) (fldK K rfl (pv 1) rfl) (nomark _)))))
      (pss_one (ps_raise rfl (takes_of rfl rfl rfl rfl) (pmk_own PySem.F.excBase_ValueError T.xX_Malformed T.gX_Malformed T.kX_Malformed (raises_own T.bX_Malformed T.tX_Malformed) (by exact rfl))))
      pss_nil)), ?_⟩
    refine ⟨_, rfl, p, T.C_Grid, dx, _, _, rfl, ho, T.cl_Grid, T.n_rows, flds_rows _ _, a, ws, rfl, .inr hs, _, rfl, p2, T.C_Grid, dx2, _, _, rfl, ho2, T.cl_Grid, T.n_rows, flds_rows _ _, a2, ws2, rfl, .inr hs2, rfl, _, rfl, ?_⟩
    by_cases hl : m.length = m2.length
    · rw [lw, lw2, hl, decide_eq_true rfl]
      refine iteF ?_
      refine ⟨_, rfl, p, T.C_Grid, dx, _, _, rfl, ho, T.cl_Grid, T.n_width, flds_width _ _, _, rfl, p2, T.C_Grid, dx2, _, _, rfl, ho2, T.cl_Grid, T.n_width, flds_width _ _, rfl, _, rfl, ?_⟩
      rw [show decide (V.int (n : Int) = V.int (n2 : Int)) = false from decide_eq_false fun z => hd.elim (fun x => x hl) fun x => x (by have := V.int.inj z; omega)]
      exact iteT q
    · rw [show decide (V.int (ws.length : Int) = V.int (ws2.length : Int)) = false from decide_eq_false fun z => hl (by have := V.int.inj z; omega)]
      exact iteT q

end
end K01
namespace K01
open PySem PySem.Spec PyProof.Rows L2 Gm
open C8 (Cal Met Mak pe_c pe_mt pe_mt0 pe_mk)
section
variable {P : Program} {w : World} {K : PySem.W.Frag} {mg : Str → Option Value} {base : Heap}
/-! ### the width that isn't told -/
def sp_checked_width_N (K : PySem.W.Frag) : Sp := fun vs H Q _ => ∃ (v : V) (m : List (List Int)) (w : Nat), vs = [v, .non] ∧ TRows K H v m ∧ 0 < m.length ∧ m.length ≤ 1000 ∧ (∀ r ∈ m, r.length = w) ∧ ∀ H', Same H H' → Q (.int w) H'
theorem ok_checked_width_N (T : Top K mg) (hN : base.NoSeer) (hT : P.given.tree = none) : FnOk P w K mg base CX0 2 T.a_checked_width T.d_checked_width ["rows", "width"] (sp_checked_width_N K) := by
  refine T.F_checked_width.ok sc_checked_width (fun vs H Q E h => ?_) (fun cdv A outer s H vs Q E hr h => ?_)
  · obtain ⟨v, m, w, rfl, _⟩ := h
    rfl
  · obtain ⟨v, m, w, rfl, hm, h0, hl, hw, q⟩ := h
    obtain ⟨a, ws, rfl, hs, hp⟩ := id hm
    have lw := Paired.length hp
    obtain ⟨v0, ev0⟩ : ∃ v0, ws[0]? = some v0 := ⟨ws[0]'(by omega), List.getElem?_eq_getElem (by omega)⟩
    obtain ⟨r0, er0, b0, rfl, hb0⟩ := Paired.getR hp ev0
    have hr0 := hw r0 (List.mem_of_getElem? er0)
    refine ⟨_, (pss_cons (ps_if (pt_cmpR op_isN (pv 1) pe_non (nomark _))
      (pss_one (ps_set (i := 1) sc_checked_width.nd rfl (by first | exact .inl rfl | exact .inr rfl) (pe_ifExp (pt_cmpR op_gt (pe_callB (lenS K rfl) (by rfl) T.z_len (by decide +kernel) (pa_cons (pv 0) pa_nil)) pe_int (nomark _)) (pe_callB (lenS K rfl) (by rfl) T.z_len (by decide +kernel) (pa_cons (pe_ix (ixT K rfl) (pv 0) pe_int (fun _ _ => rfl)) pa_nil)) pe_int)))
      pss_nil)
      (pss_cons (ps_if (PW.pt (pw_or (pt_not (pt_val (pe_c (cal_is_integer T hN hT) hr (by decide) (by rfl) (pa_cons (pv 1) pa_nil)))) (pw_or1 (pt_cmpR op_lt (pv 1) pe_int (nomark _)))))
      (pss_one ps_never)
      pss_nil)
      (pss_cons (ps_if (pt_not (pt_val (pe_callB (allK K rfl rfl) (by rfl) T.z_all (by decide +kernel) (pa_cons (pe_lc (own := [("row", 2)]) (g := (gName 2)) (by rfl) sc_checked_width.nd (piS K rfl (pv 0)) ((by show BlkOk ["rows", "width", "row"] (defScope s_checked_width) _ _; exact blkOk_by (by decide +kernel))) (fun _ _ _ _ _ => (pg_name (i := 2) sc_checked_width.nd rfl (by first | exact .inl rfl | exact .inr rfl))) (fun _ _ _ _ _ => pts_nil) (fun _ _ _ _ _ => (pe_cmpR op_eq (pe_callB (lenS K rfl) (by rfl) T.z_len (by decide +kernel) (pa_cons (pv 2) pa_nil)) (pv 1) (nomark _)))) pa_nil))))
      (pss_one ps_never)
      pss_nil)
      (pss_one (ps_ret (pv 1)))))), ?_⟩
    refine ⟨_, rfl, rfl, _, rfl, ?_⟩
    rw [decide_eq_true rfl]
    refine iteT ?_
    refine ⟨_, rfl, a, ws, rfl, .inr hs, _, _, rfl, rfl, _, rfl, ?_⟩
    rw [decide_eq_true (by omega)]
    refine iteT ?_
    refine ⟨_, rfl, a, ws, _, _, rfl, rfl, hs, atI_nat (j := 0) ev0, b0, _, rfl, .inr hb0, ?_⟩
    rw [List.length_map, hr0]
    refine ⟨_, rfl, _, rfl, true, rfl, iteF ⟨_, rfl, _, _, rfl, rfl, _, rfl, ?_⟩⟩
    rw [decide_eq_false (by omega)]
    refine iteF ?_
    refine ⟨_, rfl, a, ws, rfl, .inr hs, fun J2 G2 W2 hG2 D hD => ?_⟩
    refine lc_all W2 hD (by omega) (fun H4 s4 => hG2 H4 fun b _ o => s4 b o) (fun _ v _ => v = .bl true) (fun _ _ _ _ _ _ _ h => h) ?_ gm_name ?_
    · rintro i x H4 H4' acc Ko hi s4 eD ⟨rfl, ex⟩ k
      obtain ⟨r, er, b, rfl, hb⟩ := Paired.getR hp ex
      refine ⟨rfl, ?_⟩
      refine ⟨_, rfl, b, _, rfl, .inr (Same.seqT s4 hb), _, rfl, rfl, ?_⟩
      rw [List.length_map, hw r (List.mem_of_getElem? er), decide_eq_true rfl]
      exact k _ _ (Same.refl _) rfl
    · intro H4 l s4 eD hl2
      refine ⟨D, List.replicate l.length true, rfl, .inl (.inl (by rw [← paired_true hl2]; exact eD)), true, by rw [all_true], ?_⟩
      refine iteF ?_
      exact ⟨_, rfl, q _ s4⟩
theorem cal_checked_width_N (T : Top K mg) (hN : base.NoSeer) (hT : P.given.tree = none) : Cal P w K mg base 2 "checked_width" (sp_checked_width_N K) [] := ⟨⟨_, _, _, [], ok_checked_width_N T hN hT, T.g_checked_width, T.F_checked_width.kp, T.b_checked_width, .nil⟩⟩
def sp_checked_width_NX (K : PySem.W.Frag) (X : Addr) : Sp := fun vs H _ E => ∃ (v : V) (m : List (List Int)) (i : Nat), vs = [v, .non] ∧ TRows K H v m ∧ 0 < m.length ∧ m.length ≤ 1000 ∧ (∃ r0 r, m[0]? = some r0 ∧ m[i]? = some r ∧ r.length ≠ r0.length) ∧ ∀ H', Same H H' → E (.ref X) none H'
theorem ok_checked_width_NX (T : Top K mg) (hN : base.NoSeer) (hT : P.given.tree = none) : FnOk P w K mg base (L2.CX P w) 2 T.a_checked_width T.d_checked_width ["rows", "width"] (sp_checked_width_NX K T.X_Malformed) := by
  refine T.F_checked_width.okX sc_checked_width (fun vs H Q E h => ?_) (fun cdv A outer s H vs Q E hr h => ?_)
  · obtain ⟨v, m, i, rfl, _⟩ := h
    rfl
  · obtain ⟨v, m, i0, rfl, hm, h0, hl, ⟨r0, r1, er0, er1, hne⟩, q⟩ := h
    obtain ⟨a, ws, rfl, hs, hp⟩ := id hm
    have lw := Paired.length hp
    obtain ⟨v0, ev0, b0, rfl, hb0⟩ := Paired.getR (Paired.swap hp) er0
    refine ⟨_, (pss_cons (ps_if (pt_cmpR op_isN (pv 1) pe_non (nomark _))
      (pss_one (ps_set (i := 1) sc_checked_width.nd rfl (by first | exact .inl rfl | exact .inr rfl) (pe_ifExp (pt_cmpR op_gt (pe_callB (lenS K rfl) (by rfl) T.z_len (by decide +kernel) (pa_cons (pv 0) pa_nil)) pe_int (nomark _)) (pe_callB (lenS K rfl) (by rfl) T.z_len (by decide +kernel) (pa_cons (pe_ix (ixT K rfl) (pv 0) pe_int (fun _ _ => rfl)) pa_nil)) pe_int)))
      pss_nil)
      (pss_cons (ps_if (PW.pt (pw_or (pt_not (pt_val (pe_c (cal_is_integer T hN hT) hr (by decide) (by rfl) (pa_cons (pv 1) pa_nil)))) (pw_or1 (pt_cmpR op_lt (pv 1) pe_int (nomark _)))))
      (pss_one ps_never)
      pss_nil)
      (pss_cons (ps_if (pt_not (pt_val (pe_callB (allK K rfl rfl) (by rfl) T.z_all (by decide +kernel) (pa_cons (pe_lc (own := [("row", 2)]) (g := (gName 2)) (by rfl) sc_checked_width.nd (piS K rfl (pv 0)) ((by show BlkOk ["rows", "width", "row"] (defScope s_checked_width) _ _; exact blkOk_by (by decide +kernel))) (fun _ _ _ _ _ => (pg_name (i := 2) sc_checked_width.nd rfl (by first | exact .inl rfl | exact .inr rfl))) (fun _ _ _ _ _ => pts_nil) (fun _ _ _ _ _ => (pe_cmpR op_eq (pe_callB (lenS K rfl) (by rfl) T.z_len (by decide +kernel) (pa_cons (pv 2) pa_nil)) (pv 1) (nomark _)))) pa_nil))))
      (pss_one (ps_raise rfl (takes_of rfl rfl rfl rfl) (pmk_own PySem.F.excBase_ValueError T.xX_Malformed T.gX_Malformed T.kX_Malformed (raises_own T.bX_Malformed T.tX_Malformed) (by exact rfl))))
      pss_nil)
      (pss_one (ps_ret (pv 1)))))), ?_⟩
    refine ⟨_, rfl, rfl, _, rfl, ?_⟩
    rw [decide_eq_true rfl]
    refine iteT ?_
    refine ⟨_, rfl, a, ws, rfl, .inr hs, _, _, rfl, rfl, _, rfl, ?_⟩
    rw [decide_eq_true (by omega)]
    refine iteT ?_
    refine ⟨_, rfl, a, ws, _, _, rfl, rfl, hs, atI_nat (j := 0) ev0, b0, _, rfl, .inr hb0, ?_⟩
    rw [List.length_map]
    refine ⟨_, rfl, _, rfl, true, rfl, iteF ⟨_, rfl, _, _, rfl, rfl, _, rfl, ?_⟩⟩
    rw [decide_eq_false (by omega)]
    refine iteF ?_
    refine ⟨_, rfl, a, ws, rfl, .inr hs, fun J2 G2 W2 hG2 D hD => ?_⟩
    refine lc_all W2 hD (by omega) (fun H4 s4 => hG2 H4 fun b _ o => s4 b o) (fun i v _ => v = .bl (decide ((m.getD i []).length = r0.length))) (fun _ _ _ _ _ _ _ h => h) ?_ gm_name ?_
    · rintro i x H4 H4' acc Ko hi s4 eD ⟨rfl, ex⟩ k
      obtain ⟨r, er, b, rfl, hb⟩ := Paired.getR hp ex
      refine ⟨rfl, ?_⟩
      refine ⟨_, rfl, b, _, rfl, .inr (Same.seqT s4 hb), _, rfl, rfl, ?_⟩
      refine k _ _ (Same.refl _) ?_
      rw [List.getD_eq_getElem?_getD, er, List.length_map]
      show V.bl (decide (V.int (r.length : Int) = V.int (r0.length : Int))) = V.bl (decide (r.length = r0.length))
      refine congrArg V.bl ?_
      by_cases h : r.length = r0.length
      · rw [decide_eq_true h, decide_eq_true (by rw [h])]
      · rw [decide_eq_false h, decide_eq_false (fun z => h (by have := V.int.inj z; omega))]
    · intro H4 l s4 eD hl2
      refine ⟨D, (List.range ws.length).map fun i => decide ((m.getD i []).length = r0.length), rfl, .inl (.inl (by rw [← bools_list hl2]; exact eD)), false, ?_, ?_⟩
      · have hi0 : i0 < m.length := (List.getElem?_eq_some_iff.mp er1).1
        rw [not_all (i := i0) (by omega) (by rw [List.getD_eq_getElem?_getD, er1]; exact decide_eq_false hne)]
      · refine iteT ?_
        exact q _ s4
/-! ### the constructor without a width; that raises -/
def sp_Grid_init_N (K : PySem.W.Frag) (C : Addr) : Sp := fun vs H Q _ => ∃ (p dx : Addr) (v : V) (m : List (List Int)) (w : Nat), vs = [.ref p, v, .non] ∧ H p = some (.ins C dx []) ∧ IRows K H v m ∧ 0 < m.length ∧ m.length ≤ 1000 ∧ w ≤ 1000 ∧ (∀ r ∈ m, r.length = w) ∧
  ∀ t H', Off p H H' → H' p = some (.ins C dx (flds t w)) → TRows K H' t m → Q .non H'
theorem ok_Grid_init_N (T : Top K mg) (hN : base.NoSeer) (hT : P.given.tree = none) : FnOk P w K mg base CX0 3 T.a_Grid_init T.d_Grid_init ["self", "rows", "width"] (sp_Grid_init_N K T.C_Grid) := by
  refine T.F_Grid_init.ok sc_Grid_init (fun vs H Q E h => ?_) (fun cdv A outer s H vs Q E hr h => ?_)
  · obtain ⟨p, dx, v, m, w, rfl, _⟩ := h
    rfl
  · obtain ⟨p, dx, v, m, w, rfl, hp, hm, h0, hl, hw, hrw, q⟩ := h
    refine ⟨_, PSs.nox (pss_cons (ps_fld (pv 0) (pe_c (cal_checked_rows T hN hT) hr (by decide) (by rfl) (pa_cons (pv 1) pa_nil)) rfl)
      (pss_one (ps_fld (pv 0) (pe_c (cal_checked_width_N T hN hT) hr (by decide) (by rfl) (pa_cons (fldK K rfl (pv 0) rfl) (pa_cons (pv 2) pa_nil))) rfl))), ?_⟩
    refine ⟨_, rfl, v, m, rfl, hm, hl, fun r hr => by rw [hrw r hr]; exact hw, fun t H1 s1 ht => ?_⟩
    have hp1 := s1 _ _ hp
    refine ⟨_, rfl, p, T.C_Grid, dx, [], rfl, hp1, T.cl_Grid, T.n_rows, by show 0 < 1000; decide, ?_⟩
    refine ⟨_, rfl, p, T.C_Grid, dx, _, t, rfl, upd_same, T.cl_Grid, T.n_rows, ?_, ?_⟩
    · rw [lookup_putF, if_pos rfl]
    have ht2 : TRows K (upd H1 p (.ins T.C_Grid dx (putF "rows" t []))) t m := trows_off hp1 Off.upd ht
    refine ⟨_, rfl, t, m, w, rfl, ht2, h0, hl, hrw, fun H2 s2 => ?_⟩
    have hp2 := s2 _ _ upd_same
    refine ⟨_, rfl, p, T.C_Grid, dx, _, rfl, hp2, T.cl_Grid, T.n_width, by show 1 < 1000; decide, ?_⟩
    refine q t _ (fun b o n e => ?_) upd_same (trows_off hp2 Off.upd (ht2.same s2))
    rw [upd_ne n]
    exact s2 _ _ (Off.upd _ _ n (s1 _ _ e))

end
end K01
namespace K01
open PySem PySem.Spec PyProof.Rows L2 Gm
open C8 (Cal Met Mak pe_c pe_mt pe_mt0 pe_mk)
section
variable {P : Program} {w : World} {K : PySem.W.Frag} {mg : Str → Option Value} {base : Heap}
/-! ### rows that are none -/
def isI : V → Bool
  | .int _ => true
  | _ => false
def Flat (v : V) : Prop := (∃ i, v = .int i) ∨ (∃ b, v = .bl b) ∨ ∃ x, v = .str x
def sp_is_integer_any : Sp := fun vs H Q _ => ∃ v, vs = [v] ∧ Flat v ∧ Q (.bl (isI v)) H
theorem ok_is_integer_any (T : Top K mg) : FnOk P w K mg base CX0 1 T.a_is_integer T.d_is_integer ["value"] sp_is_integer_any := by
  refine T.F_is_integer.ok sc_is_integer (fun vs H Q E h => ?_) (fun cdv A outer s H vs Q E hr h => ?_)
  · obtain ⟨v, rfl, _⟩ := h
    rfl
  · obtain ⟨v, rfl, f, q⟩ := h
    refine ⟨_, (pss_one (ps_ret (pe_and (pe_callB (isiK K rfl) (by rfl) T.z_isinstance (by decide +kernel) (pa_cons (pv 0) (pa_cons (pe_bltn (v := .ty "int") (by rfl) T.z_int (by decide +kernel) rfl) pa_nil))) (pe_one (pe_not (pe_callB (isiK K rfl) (by rfl) T.z_isinstance (by decide +kernel) (pa_cons (pv 0) (pa_cons (pe_bltn (v := .ty "bool") (by rfl) T.z_bool (by decide +kernel) rfl) pa_nil)))))))), ?_⟩
    rcases f with ⟨i, rfl⟩ | ⟨b, rfl⟩ | ⟨x, rfl⟩
    · refine ⟨_, rfl, .int i, .ty "int", _, _, true, rfl, .ty "int", .base (.int i), kit_ty (by decide +kernel), true, rfl, iteT ?_⟩
      exact ⟨_, rfl, .int i, .ty "bool", _, _, false, rfl, .ty "bool", .base (.int i), kit_ty (by decide +kernel), false, rfl, q⟩
    · refine ⟨_, rfl, .bl b, .ty "int", _, _, true, rfl, .ty "int", .base (.bl b), kit_ty (by decide +kernel), true, rfl, iteT ?_⟩
      exact ⟨_, rfl, .bl b, .ty "bool", _, _, true, rfl, .ty "bool", .base (.bl b), kit_ty (by decide +kernel), true, rfl, q⟩
    · refine ⟨_, rfl, .str x, .ty "int", _, _, false, rfl, .ty "int", .base (.str x), kit_ty (by decide +kernel), false, rfl, iteF ?_⟩
      exact q
theorem cal_is_integer_any (T : Top K mg) (hN : base.NoSeer) (hT : P.given.tree = none) : Cal P w K mg base 1 "is_integer" sp_is_integer_any [] := ⟨⟨_, _, _, [], ok_is_integer_any T, T.g_is_integer, T.F_is_integer.kp, T.b_is_integer, .nil⟩⟩
def sp_checked_rows_X (K : PySem.W.Frag) (X : Addr) : Sp := fun vs H _ E => ∃ (a b : Addr) (xs : List V), vs = [.ref a] ∧ Gm.Seq K H a [.ref b] ∧ Gm.Seq K H b xs ∧ (∀ x ∈ xs, Flat x) ∧ xs.length ≤ 1000 ∧ xs.all isI = false ∧ ∀ H', Same H H' → E (.ref X) none H'
theorem ok_checked_rows_X (T : Top K mg) (hN : base.NoSeer) (hT : P.given.tree = none) : FnOk P w K mg base (L2.CX P w) 2 T.a_checked_rows T.d_checked_rows ["rows"] (sp_checked_rows_X K T.X_Malformed) := by
  refine T.F_checked_rows.okX sc_checked_rows (fun vs H Q E h => ?_) (fun cdv A outer s H vs Q E hr h => ?_)
  · obtain ⟨a, b, xs, rfl, _⟩ := h
    rfl
  · obtain ⟨a, b, xs, rfl, hs, hb, hf, hl, hall, q⟩ := h
    refine ⟨_, (pss_cons (ps_if (pt_not (pt_val (pe_callB (isiTK K rfl) (by rfl) T.z_isinstance (by decide +kernel) (pa_cons (pv 0) (pa_cons (pe_tup (pa_cons (pe_bltn (v := .ty "list") (by rfl) T.z_list (by decide +kernel) rfl) (pa_cons (pe_bltn (v := .ty "tuple") (by rfl) T.z_tuple (by decide +kernel) rfl) pa_nil))) pa_nil)))))
      (pss_one ps_never)
      pss_nil)
      (pss_cons (ps_for (passes_of rfl) rfl (piS K rfl (pv 0)) (pg_name (i := 1) sc_checked_rows.nd rfl (by first | exact .inl rfl | exact .inr rfl))
      (pss_cons (ps_if (pt_not (pt_val (pe_callB (isiTK K rfl) (by rfl) T.z_isinstance (by decide +kernel) (pa_cons (pv 1) (pa_cons (pe_tup (pa_cons (pe_bltn (v := .ty "list") (by rfl) T.z_list (by decide +kernel) rfl) (pa_cons (pe_bltn (v := .ty "tuple") (by rfl) T.z_tuple (by decide +kernel) rfl) pa_nil))) pa_nil)))))
      (pss_one ps_never)
      pss_nil)
      (pss_one (ps_if (pt_not (pt_val (pe_callB (allK K rfl rfl) (by rfl) T.z_all (by decide +kernel) (pa_cons (pe_lc (own := [("item", 2)]) (g := (gName 2)) (by rfl) sc_checked_rows.nd (piS K rfl (pv 1)) ((by show BlkOk ["rows", "row", "item"] (defScope s_checked_rows) _ _; exact blkOk_by (by decide +kernel))) (fun _ _ _ _ _ => (pg_name (i := 2) sc_checked_rows.nd rfl (by first | exact .inl rfl | exact .inr rfl))) (fun _ _ _ _ _ => pts_nil) (fun _ _ _ _ _ => (pe_c (cal_is_integer_any T hN hT) hr (by decide) (by rfl) (pa_cons (pv 2) pa_nil)))) pa_nil))))
      (pss_one (ps_raise rfl (takes_of rfl rfl rfl rfl) (pmk_own PySem.F.excBase_ValueError T.xX_Malformed T.gX_Malformed T.kX_Malformed (raises_own T.bX_Malformed T.tX_Malformed) (by exact rfl))))
      pss_nil))))
      (pss_one (ps_ret (pe_callTy (tupK K rfl) (by rfl) T.z_tuple (by decide +kernel) (pa_cons (pe_lc (own := [("row", 1)]) (g := (gName 1)) (by rfl) sc_checked_rows.nd (piS K rfl (pv 0)) ((by show BlkOk ["rows", "row", "item"] (defScope s_checked_rows) _ _; exact blkOk_by (by decide +kernel))) (fun _ _ _ _ _ => (pg_name (i := 1) sc_checked_rows.nd rfl (by first | exact .inl rfl | exact .inr rfl))) (fun _ _ _ _ _ => pts_nil) (fun _ _ _ _ _ => (pe_callTy (tupK K rfl) (by rfl) T.z_tuple (by decide +kernel) (pa_cons (pv 1) pa_nil)))) pa_nil)))))), ?_⟩
    refine ⟨_, rfl, by show 2 ≤ sizeLine; decide, fun p np => ?_⟩
    have s1 : Same H (upd H p (.tup [.ty "list", .ty "tuple"])) := same_upd np
    obtain ⟨n, hn, ty⟩ := seq_ty (hs.same s1)
    refine ⟨.ref a, p, [.ty "list", .ty "tuple"], _, [.type "list", .type "tuple"], true, rfl, upd_same, .cons (.ty _) (.cons (.ty _) .nil), ty, kit_lt hn, true, rfl, ?_⟩
    refine iteF ?_
    refine ⟨_, rfl, a, _, rfl, hs.same s1, fun J G W hG => ?_⟩
    generalize hH1 : upd H p (.tup [.ty "list", .ty "tuple"]) = H1 at s1 hG
    refine for_it W (fun i σ H2 => i = 0 ∧ ∃ y1 y2, σ = [some (.ref a), y1, y2] ∧ Same H1 H2) ⟨rfl, none, none, rfl, Same.refl _⟩ (fun i σ H2 _ ⟨_, _, _, _, s2⟩ => hG _ fun b _ o => s2 b o) ?_ ?_
    · rintro i x σ H2 H2' hi ⟨rfl, y1, y2, rfl, s2⟩ ⟨rfl, ex⟩
      obtain rfl : V.ref b = x := Option.some.inj ex
      refine ⟨_, rfl, by show 2 ≤ sizeLine; decide, fun p2 np2 => ?_⟩
      have s3 : Same H2' (upd H2' p2 (.tup [.ty "list", .ty "tuple"])) := same_upd np2
      have hb3 := hb.same (s1.trans (s2.trans s3))
      obtain ⟨n2, hn2, ty2⟩ := seq_ty hb3
      refine ⟨.ref b, p2, [.ty "list", .ty "tuple"], _, [.type "list", .type "tuple"], true, rfl, upd_same, .cons (.ty _) (.cons (.ty _) .nil), ty2, kit_lt hn2, true, rfl, ?_⟩
      refine iteF ?_
      refine ⟨_, rfl, b, _, rfl, hb3, fun J2 G2 W2 hG2 D hD => ?_⟩
      refine lc_all W2 hD hl (fun H4 s4 => hG2 H4 fun b _ o => s4 b o) (fun i v _ => v = .bl (isI (xs.getD i .non))) (fun _ _ _ _ _ _ _ h => h) ?_ gm_name ?_
      · rintro j y H4 H4' acc Ko hj s4 eD ⟨rfl, ey⟩ k
        have hy : y ∈ xs := List.mem_of_getElem? ey
        refine ⟨rfl, ?_⟩
        refine ⟨_, rfl, y, rfl, hf y hy, k _ _ (Same.refl _) ?_⟩
        rw [List.getD_eq_getElem?_getD, ey]
        rfl
      · intro H4 l s4 eD hl2
        refine ⟨D, (List.range xs.length).map fun i => isI (xs.getD i .non), rfl, .inl (.inl (by rw [← bools_list hl2]; exact eD)), false, ?_, ?_⟩
        · obtain ⟨x, hx, hn⟩ := List.all_eq_false.mp hall
          obtain ⟨i0, ei0⟩ := List.getElem?_of_mem hx
          have hi0 : i0 < xs.length := (List.getElem?_eq_some_iff.mp ei0).1
          rw [not_all (i := i0) hi0 (by rw [List.getD_eq_getElem?_getD, ei0]; exact Bool.eq_false_iff.mpr hn)]
        · refine iteT ?_
          exact q _ (s1.trans (s2.trans (s3.trans s4)))
    · rintro σ H2 ⟨h0, _⟩
      exact absurd h0 (by simp)
/-! ### the constructor that raises -/
def sp_Grid_init_XR (K : PySem.W.Frag) (C X : Addr) : Sp := fun vs H _ E => ∃ (p dx a b : Addr) (u : V) (xs : List V), vs = [.ref p, .ref a, u] ∧ Gm.Seq K H a [.ref b] ∧ Gm.Seq K H b xs ∧ (∀ x ∈ xs, Flat x) ∧ xs.length ≤ 1000 ∧ xs.all isI = false ∧ ∀ H', Same H H' → E (.ref X) none H'
theorem ok_Grid_init_XR (T : Top K mg) (hN : base.NoSeer) (hT : P.given.tree = none) : FnOk P w K mg base (L2.CX P w) 3 T.a_Grid_init T.d_Grid_init ["self", "rows", "width"] (sp_Grid_init_XR K T.C_Grid T.X_Malformed) := by
  refine T.F_Grid_init.ok (CX := L2.CX P w) sc_Grid_init (fun vs H Q E h => ?_) (fun cdv A outer s H vs Q E hr h => ?_)
  · obtain ⟨p, dx, a, b, u, xs, rfl, _⟩ := h
    rfl
  · obtain ⟨p, dx, a, b, u, xs, rfl, hs, hb, hf, hl, hall, q⟩ := h
    refine ⟨_, (pss_cons (ps_fld (pv 0) (pe_call (E := E) (ok_checked_rows_X T hN hT) (hr.mono (by decide)) (by rfl) T.g_checked_rows T.F_checked_rows.kp T.b_checked_rows .nil (passes_call (takes_of rfl rfl rfl rfl) (fun _ _ _ _ h => h)) (pa_cons (pv 1) pa_nil)) rfl)
      (pss_one ps_never)), ?_⟩
    exact ⟨_, rfl, a, b, xs, rfl, hs, hb, hf, hl, hall, q⟩
def sp_Grid_init_XW (K : PySem.W.Frag) (C X : Addr) : Sp := fun vs H _ E => ∃ (p dx : Addr) (v : V) (m : List (List Int)) (i : Nat), vs = [.ref p, v, .non] ∧ H p = some (.ins C dx []) ∧ IRows K H v m ∧ 0 < m.length ∧ m.length ≤ 1000 ∧ (∀ r ∈ m, r.length ≤ 1000) ∧ (∃ r0 r, m[0]? = some r0 ∧ m[i]? = some r ∧ r.length ≠ r0.length) ∧ ∀ H', Off p H H' → E (.ref X) none H'
theorem ok_Grid_init_XW (T : Top K mg) (hN : base.NoSeer) (hT : P.given.tree = none) : FnOk P w K mg base (L2.CX P w) 3 T.a_Grid_init T.d_Grid_init ["self", "rows", "width"] (sp_Grid_init_XW K T.C_Grid T.X_Malformed) := by
  refine T.F_Grid_init.ok (CX := L2.CX P w) sc_Grid_init (fun vs H Q E h => ?_) (fun cdv A outer s H vs Q E hr h => ?_)
  · obtain ⟨p, dx, v, m, i, rfl, _⟩ := h
    rfl
  · obtain ⟨p, dx, v, m, i, rfl, hp, hm, h0, hl, hw, hd, q⟩ := h
    refine ⟨_, (pss_cons (ps_fld (pv 0) (pe_c (cal_checked_rows T hN hT) hr (by decide) (by rfl) (pa_cons (pv 1) pa_nil)) rfl)
      (pss_one (ps_fld (pv 0) (pe_call (E := E) (ok_checked_width_NX T hN hT) (hr.mono (by decide)) (by rfl) T.g_checked_width T.F_checked_width.kp T.b_checked_width .nil (passes_call (takes_of rfl rfl rfl rfl) (fun _ _ _ _ h => h)) (pa_cons (fldK K rfl (pv 0) rfl) (pa_cons (pv 2) pa_nil))) rfl))), ?_⟩
    refine ⟨_, rfl, v, m, rfl, hm, hl, hw, fun t H1 s1 ht => ?_⟩
    have hp1 := s1 _ _ hp
    refine ⟨_, rfl, p, T.C_Grid, dx, [], rfl, hp1, T.cl_Grid, T.n_rows, by show 0 < 1000; decide, ?_⟩
    refine ⟨_, rfl, p, T.C_Grid, dx, _, t, rfl, upd_same, T.cl_Grid, T.n_rows, ?_, ?_⟩
    · rw [lookup_putF, if_pos rfl]
    have ht2 : TRows K (upd H1 p (.ins T.C_Grid dx (putF "rows" t []))) t m := trows_off hp1 Off.upd ht
    refine ⟨_, rfl, t, m, i, rfl, ht2, h0, hl, hd, fun H2 s2 => ?_⟩
    exact q _ fun b o n e => s2 _ _ (Off.upd _ _ n (s1 _ _ e))

end
end K01
namespace K01
open PySem PySem.Spec PyProof.Rows L2 Gm
open C8 (Cal Met Mak pe_c pe_mt pe_mt0 pe_mk)
section
variable {P : Program} {w : World} {K : PySem.W.Frag} {mg : Str → Option Value} {base : Heap}
/-! ### operators that raise -/
def sp_Grid_mul_X (K : PySem.W.Frag) (C X : Addr) : Sp := fun vs H _ E => ∃ v m w u m2 w2, vs = [v, u] ∧ IsGrid K C H v m w ∧ IsGrid K C H u m2 w2 ∧ w ≠ m2.length ∧ E (.ref X) none H
theorem ok_Grid_mul_X (T : Top K mg) (hN : base.NoSeer) (hT : P.given.tree = none) : FnOk P w K mg base (L2.CX P w) 6 T.a_Grid_mul T.d_Grid_mul ["self", "other"] (sp_Grid_mul_X K T.C_Grid T.X_Malformed) := by
  refine T.F_Grid_mul.okX sc_Grid_mul (fun vs H Q E h => ?_) (fun cdv A outer s H vs Q E hr h => ?_)
  · obtain ⟨v, m, w, u, m2, w2, rfl, _⟩ := h
    rfl
  · obtain ⟨v, m, n, u, m2, n2, rfl, G, G2, hw, q⟩ := h
    obtain ⟨⟨p, dx, t, rfl, ho, ht⟩, hrw⟩ := id G
    obtain ⟨⟨p2, dx2, t2, rfl, ho2, ⟨a2, ws2, rfl, hs2, hp2⟩⟩, hrw2⟩ := id G2
    have lw2 := Paired.length hp2
    refine ⟨_, (pss_cons (ps_if (pt_not (pt_val (pe_callB (isiK K rfl) (by rfl) T.z_isinstance (by decide +kernel) (pa_cons (pv 1) (pa_cons (pe_glob (by rfl) T.g_Grid (show RelV (.ref T.C_Grid) _ from rfl)) pa_nil)))))
      (pss_one ps_never)
      pss_nil)
      (pss_cons (ps_if (pt_cmpR op_ne (fldK K rfl (pv 0) rfl) (pe_callB (lenS K rfl) (by rfl) T.z_len (by decide +kernel) (pa_cons (fldK K rfl (pv 1) rfl) pa_nil)) (nomark _))
      (pss_one (ps_raise rfl (takes_of rfl rfl rfl rfl) (pmk_own PySem.F.excBase_ValueError T.xX_Malformed T.gX_Malformed T.kX_Malformed (raises_own T.bX_Malformed T.tX_Malformed) (by exact rfl))))
      pss_nil)
      (pss_cons (ps_set (i := 2) sc_Grid_mul.nd rfl (by first | exact .inl rfl | exact .inr rfl) (fldK K rfl (pe_mt0 (met_Grid_transposed T hN hT) hr (by decide) (pv 1)) rfl))
      (pss_one (ps_ret (pe_mk (mak_Grid T hN hT) hr (by decide) (by rfl) (pa_cons (pe_lc (own := [("row", 3)]) (g := (gName 3)) (by rfl) sc_Grid_mul.nd (piS K rfl (fldK K rfl (pv 0) rfl)) ((by show BlkOk ["self", "other", "columns", "row", "column"] (defScope s_Grid_mul) _ _; exact blkOk_by (by decide +kernel))) (fun _ _ _ _ _ => (pg_name (i := 3) sc_Grid_mul.nd rfl (by first | exact .inl rfl | exact .inr rfl))) (fun _ _ _ _ _ => pts_nil) (fun _ _ _ _ _ => (pe_lc (own := [("column", 4)]) (g := (gName 4)) (by rfl) sc_Grid_mul.nd (piS K rfl (pv 2)) ((by show BlkOk ["self", "other", "columns", "row", "column"] (relS _ (defScope s_Grid_mul)) _ _; exact blkOk_by (by decide +kernel))) (fun _ _ _ _ _ => (pg_name (i := 4) sc_Grid_mul.nd rfl (by first | exact .inl rfl | exact .inr rfl))) (fun _ _ _ _ _ => pts_nil) (fun _ _ _ _ _ => (pe_c (cal_dot T hN hT) hr (by decide) (by rfl) (pa_cons (pv 3) (pa_cons (pv 4) pa_nil))))))) (pa_cons (fldK K rfl (pv 1) rfl) pa_nil)))))))), ?_⟩
    refine ⟨_, rfl, .ref p2, .ref T.C_Grid, _, _, true, rfl, .own _, .base (.ins ho2 T.cl_Grid T.kc_Grid T.kg_Grid T.kt_Grid T.km_Grid), ?_, true, rfl, ?_⟩
    · unfold PySem.W.kitOne
      rw [if_pos (beq_self_eq_true _)]
    refine iteF ?_
    refine ⟨_, rfl, p, T.C_Grid, dx, _, _, rfl, ho, T.cl_Grid, T.n_width, flds_width _ _, _, rfl, p2, T.C_Grid, dx2, _, _, rfl, ho2, T.cl_Grid, T.n_rows, flds_rows _ _, a2, ws2, rfl, .inr hs2, rfl, _, rfl, ?_⟩
    rw [show decide (V.int (n : Int) = V.int (ws2.length : Int)) = false from decide_eq_false fun z => hw (by have := V.int.inj z; omega)]
    exact iteT q
def sp_Grid_add_X (K : PySem.W.Frag) (C X : Addr) : Sp := fun vs H _ E => ∃ v m w u m2 w2, vs = [v, u] ∧ IsGrid K C H v m w ∧ IsGrid K C H u m2 w2 ∧ (m.length ≠ m2.length ∨ w ≠ w2) ∧ E (.ref X) none H
theorem ok_Grid_add_X (T : Top K mg) (hN : base.NoSeer) (hT : P.given.tree = none) : FnOk P w K mg base (L2.CX P w) 5 T.a_Grid_add T.d_Grid_add ["self", "other"] (sp_Grid_add_X K T.C_Grid T.X_Malformed) := by
  refine T.F_Grid_add.okX sc_Grid_add (fun vs H Q E h => ?_) (fun cdv A outer s H vs Q E hr h => ?_)
  · obtain ⟨v, m, w, u, m2, w2, rfl, _⟩ := h
    rfl
  · obtain ⟨v, m, n, u, m2, n2, rfl, G, G2, hd, q⟩ := h
    obtain ⟨⟨p, dx, t, rfl, ho, ht⟩, hrw⟩ := id G
    obtain ⟨⟨p2, dx2, t2, rfl, ho2, ht2⟩, hrw2⟩ := id G2
    refine ⟨_, (pss_cons (ps_if (pt_not (pt_val (pe_callB (isiK K rfl) (by rfl) T.z_isinstance (by decide +kernel) (pa_cons (pv 1) (pa_cons (pe_glob (by rfl) T.g_Grid (show RelV (.ref T.C_Grid) _ from rfl)) pa_nil)))))
      (pss_one ps_never)
      pss_nil)
      (pss_cons (ps_expr (pe_call (E := E) (ok_same_size_X T hN hT) (hr.mono (by decide)) (by rfl) T.g_check_same_size T.F_check_same_size.kp T.b_check_same_size .nil (passes_call (takes_of rfl rfl rfl rfl) (fun _ _ _ _ h => h)) (pa_cons (pv 0) (pa_cons (pv 1) pa_nil))))
      (pss_cons ps_never
      (pss_one ps_never)))), ?_⟩
    refine ⟨_, rfl, .ref p2, .ref T.C_Grid, _, _, true, rfl, .own _, .base (.ins ho2 T.cl_Grid T.kc_Grid T.kg_Grid T.kt_Grid T.km_Grid), ?_, true, rfl, ?_⟩
    · unfold PySem.W.kitOne
      rw [if_pos (beq_self_eq_true _)]
    refine iteF ?_
    exact ⟨_, rfl, _, rfl, .ref p, m, n, .ref p2, m2, n2, rfl, G, G2, hd, q⟩

end
end K01
namespace K01
open PySem PySem.Spec PyProof.Rows L2 Gm
open C8 (Cal Met Mak pe_c pe_mt pe_mt0 pe_mk)
section
variable {P : Program} {w : World} {K : PySem.W.Frag} {mg : Str → Option Value} {base : Heap}
/-! ### sums -/
def zipM (f : Int → Int → Int) (m1 m2 : List (List Int)) : List (List Int) := List.zipWith (List.zipWith f) m1 m2
theorem zipM_row {f : Int → Int → Int} {m1 m2 : List (List Int)} {w : Nat} (h1 : ∀ r ∈ m1, r.length = w) (h2 : ∀ r ∈ m2, r.length = w) : ∀ r ∈ zipM f m1 m2, r.length = w := fun r hr => by
  obtain ⟨k, hk⟩ := List.getElem?_of_mem hr
  unfold zipM at hk
  rw [List.getElem?_zipWith] at hk
  cases e1 : m1[k]? with
  | none => rw [e1] at hk; cases hk
  | some a =>
    cases e2 : m2[k]? with
    | none => rw [e1, e2] at hk; cases hk
    | some b =>
      rw [e1, e2] at hk
      rw [← Option.some.inj hk, List.length_zipWith, h1 a (List.mem_of_getElem? e1), h2 b (List.mem_of_getElem? e2), Nat.min_self]
/-! ### a + b -/
def sp_Grid_add (K : PySem.W.Frag) (C : Addr) : Sp := fun vs H Q _ => ∃ v m w u m2, vs = [v, u] ∧ IsGrid K C H v m w ∧ IsGrid K C H u m2 w ∧ m.length = m2.length ∧ m.length ≤ 1000 ∧ w ≤ 1000 ∧ ∀ g H', Same H H' → IsGrid K C H' g (zipM (fun x y => x + y) m m2) w → Q g H'
theorem ok_Grid_add (T : Top K mg) (hN : base.NoSeer) (hT : P.given.tree = none) : FnOk P w K mg base CX0 5 T.a_Grid_add T.d_Grid_add ["self", "other"] (sp_Grid_add K T.C_Grid) := by
  refine T.F_Grid_add.ok sc_Grid_add (fun vs H Q E h => ?_) (fun cdv A outer s H vs Q E hr h => ?_)
  · obtain ⟨v, m, w, u, m2, rfl, _⟩ := h
    rfl
  · obtain ⟨v, m, n, u, m2, rfl, G, G2, hlm, hl, hw, q⟩ := h
    obtain ⟨⟨p, dx, t, rfl, ho, ⟨a, ws, rfl, hs, hp⟩⟩, hrw⟩ := id G
    obtain ⟨⟨p2, dx2, t2, rfl, ho2, ⟨a2, ws2, rfl, hs2, hp2⟩⟩, hrw2⟩ := id G2
    have lw := Paired.length hp
    have lw2 := Paired.length hp2
    refine ⟨_, (pss_cons (ps_if (pt_not (pt_val (pe_callB (isiK K rfl) (by rfl) T.z_isinstance (by decide +kernel) (pa_cons (pv 1) (pa_cons (pe_glob (by rfl) T.g_Grid (show RelV (.ref T.C_Grid) _ from rfl)) pa_nil)))))
      (pss_one ps_never)
      pss_nil)
      (pss_cons (ps_expr (pe_c (cal_check_same_size T hN hT) hr (by decide) (by rfl) (pa_cons (pv 0) (pa_cons (pv 1) pa_nil))))
      (pss_cons (ps_set (i := 2) sc_Grid_add.nd rfl (by first | exact .inl rfl | exact .inr rfl) (pe_listZip rfl (by rfl) T.z_list (by rfl) T.z_zip (pa_cons (fldK K rfl (pv 0) rfl) (pa_cons (fldK K rfl (pv 1) rfl) pa_nil))))
      (pss_one (ps_ret (pe_mk (mak_Grid T hN hT) hr (by decide) (by rfl) (pa_cons (pe_lc (own := [("one", 3), ("two", 4)]) (g := (gTup K 2 (gCons (gName 3) (gCons (gName 4) gNil)))) (by rfl) sc_Grid_add.nd (piS K rfl (pv 2)) ((by show BlkOk ["self", "other", "pairs", "one", "two", "x", "y"] (defScope s_Grid_add) _ _; exact blkOk_by (by decide +kernel))) (fun _ _ _ _ _ => (pg_tup rfl (pgs_cons (pg_name (i := 3) sc_Grid_add.nd rfl (by first | exact .inl rfl | exact .inr rfl)) (pgs_cons (pg_name (i := 4) sc_Grid_add.nd rfl (by first | exact .inl rfl | exact .inr rfl)) pgs_nil)))) (fun _ _ _ _ _ => pts_nil) (fun _ _ _ _ _ => (pe_lc (own := [("x", 5), ("y", 6)]) (g := (gTup K 2 (gCons (gName 5) (gCons (gName 6) gNil)))) (by rfl) sc_Grid_add.nd (piZipT K rfl (by rfl) T.z_zip (pa_cons (pv 3) (pa_cons (pv 4) pa_nil)) (fun _ _ _ _ f h => let ⟨v, e, u, e2, h⟩ := h; ⟨v, e, u, e2, f _ _ h⟩)) ((by show BlkOk ["self", "other", "pairs", "one", "two", "x", "y"] (relS _ (defScope s_Grid_add)) _ _; exact blkOk_by (by decide +kernel))) (fun _ _ _ _ _ => (pg_tup rfl (pgs_cons (pg_name (i := 5) sc_Grid_add.nd rfl (by first | exact .inl rfl | exact .inr rfl)) (pgs_cons (pg_name (i := 6) sc_Grid_add.nd rfl (by first | exact .inl rfl | exact .inr rfl)) pgs_nil)))) (fun _ _ _ _ _ => pts_nil) (fun _ _ _ _ _ => (pe_op op_add (pv 5) (pv 6)))))) (pa_cons (fldK K rfl (pv 0) rfl) pa_nil)))))))), ?_⟩
    refine ⟨_, rfl, .ref p2, .ref T.C_Grid, _, _, true, rfl, .own _, .base (.ins ho2 T.cl_Grid T.kc_Grid T.kg_Grid T.kt_Grid T.km_Grid), ?_, true, rfl, ?_⟩
    · unfold PySem.W.kitOne
      rw [if_pos (beq_self_eq_true _)]
    refine iteF ?_
    refine ⟨_, rfl, _, rfl, .ref p, m, n, .ref p2, m2, rfl, G, G2, hlm, ?_⟩
    -- pairs = list(zip(self.rows, other.rows))
    refine ⟨_, rfl, p, T.C_Grid, dx, _, _, rfl, ho, T.cl_Grid, T.n_rows, flds_rows _ _, _, rfl, p2, T.C_Grid, dx2, _, _, rfl, ho2, T.cl_Grid, T.n_rows, flds_rows _ _, ?_⟩
    refine ⟨a, a2, ws, ws2, rfl, hs, hs2, by omega, fun H1 pr ts s1 npr _ epr lts hts => ?_⟩
    -- the outer comprehension
    refine ⟨_, rfl, pr, _, rfl, .inl (.inl (.inl epr)), fun J G0 W hG D hD => ?_⟩
    have hPD : pr ≠ D := ne_of_none epr hD
    refine lc_all W hD (by rw [List.length_map]; omega) (fun H4 s4 => hG H4 fun b _ o => s4 b o) (fun i v H4 => ∃ p, v = V.ref p ∧ p ≠ D ∧ H4 p = some (.lst (((zipM (fun x y => x + y) m m2).getD i []).map V.int))) lists_mono ?_ gm_pair ?_
    · rintro i x H4 H4' acc Ko hi s4 eD ⟨rfl, ex⟩ k
      rw [List.length_map] at hi
      obtain ⟨tj, etj, rfl⟩ : ∃ tj, ts[i]? = some tj ∧ x = V.ref tj := by
        rw [List.getElem?_map] at ex
        obtain ⟨tj, e1, e2⟩ := Option.map_eq_some_iff.mp ex
        exact ⟨tj, e1, e2.symm⟩
      obtain ⟨x1, x2, ex1, ex2, et⟩ := hts i tj etj
      obtain ⟨r, er, b, rfl, hb⟩ := Paired.getR hp ex1
      obtain ⟨r2, er2, b2, rfl, hb2⟩ := Paired.getR hp2 ex2
      have hrl := hrw r (List.mem_of_getElem? er)
      have hrl2 := hrw2 r2 (List.mem_of_getElem? er2)
      have sm := s1.trans s4
      have eg : (zipM (fun x y => x + y) m m2).getD i [] = List.zipWith (fun x y => x + y) r r2 := by
        unfold zipM
        rw [List.getD_eq_getElem?_getD, List.getElem?_zipWith, er, er2]
        rfl
      refine ⟨tj, [.ref b, .ref b2], rfl, .inl (.inl (s4 _ _ et)), rfl, .ref b, [.ref b2], rfl, .ref b2, [], rfl, rfl, ?_⟩
      refine ⟨rfl, ?_⟩
      -- the inner one
      have hb4 := Same.seqT sm hb
      have hb24 := Same.seqT sm hb2
      refine ⟨_, rfl, _, rfl, b, b2, _, _, rfl, hb4, hb24, fun D2 hD2 => ?_⟩
      have W2 : Walk (RZ.ItzT K b b2) n (fun H => SqT K H b (r.map V.int) ∧ SqT K H b2 (r2.map V.int)) (YPair (fun i => (r.map V.int)[i]?) (fun i => (r2.map V.int)[i]?)) := walk_zipT (by rw [List.length_map, List.length_map, hrl, hrl2, Nat.min_self])
      refine lc_all W2 hD2 hw (fun H5 s5 => ⟨Same.seqT s5 hb4, Same.seqT s5 hb24⟩) (fun j v _ => ∃ z, ((zipM (fun x y => x + y) m m2).getD i [])[j]? = some z ∧ v = .int z) (fun _ _ _ _ _ _ _ h => h) ?_ gm_pair ?_
      · rintro j y H5 H5' acc2 Ko2 hj s5 eD2 ⟨U, y1, y2, rfl, nU, rfl, f1, f2⟩ k2
        obtain ⟨z1, ez1, rfl⟩ := ints_get f1
        obtain ⟨z2, ez2, rfl⟩ := ints_get f2
        refine g_pair nU ⟨rfl, ?_⟩
        refine ⟨_, rfl, _, rfl, _, _, rfl, rfl, ?_⟩
        refine k2 _ _ (same_upd nU) ⟨z1 + z2, ?_, rfl⟩
        rw [eg, List.getElem?_zipWith, ez1, ez2]
      · intro H5 l s5 eD2 hpl
        have el := ints_list (by rw [eg, List.length_zipWith, hrl, hrl2, Nat.min_self]) hpl
        refine k _ _ s5 ⟨D2, rfl, ?_, by rw [← el]; exact eD2⟩
        rintro rfl
        rw [eD] at hD2
        cases hD2
    · intro H4 l s4 eD hpl
      have hrows := lists_rows (K := K) (m := zipM (fun x y => x + y) m m2) (by unfold zipM; rw [List.length_map, List.length_zipWith, lts]; omega) eD hpl
      have sm := s1.trans s4
      refine ⟨_, rfl, p, T.C_Grid, dx, _, _, rfl, sm _ _ ho, T.cl_Grid, T.n_width, flds_width _ _, ?_⟩
      exact make_grid hrows (by unfold zipM; rw [List.length_zipWith]; omega) hw (zipM_row hrw hrw2) fun g H' s' G' => q g H' (sm.trans s') G'
/-! ### a - b -/
def sp_Grid_sub (K : PySem.W.Frag) (C : Addr) : Sp := fun vs H Q _ => ∃ v m w u m2, vs = [v, u] ∧ IsGrid K C H v m w ∧ IsGrid K C H u m2 w ∧ m.length = m2.length ∧ m.length ≤ 1000 ∧ w ≤ 1000 ∧ ∀ g H', Same H H' → IsGrid K C H' g (zipM (fun x y => x - y) m m2) w → Q g H'
theorem ok_Grid_sub (T : Top K mg) (hN : base.NoSeer) (hT : P.given.tree = none) : FnOk P w K mg base CX0 5 T.a_Grid_sub T.d_Grid_sub ["self", "other"] (sp_Grid_sub K T.C_Grid) := by
  refine T.F_Grid_sub.ok sc_Grid_sub (fun vs H Q E h => ?_) (fun cdv A outer s H vs Q E hr h => ?_)
  · obtain ⟨v, m, w, u, m2, rfl, _⟩ := h
    rfl
  · obtain ⟨v, m, n, u, m2, rfl, G, G2, hlm, hl, hw, q⟩ := h
    obtain ⟨⟨p, dx, t, rfl, ho, ⟨a, ws, rfl, hs, hp⟩⟩, hrw⟩ := id G
    obtain ⟨⟨p2, dx2, t2, rfl, ho2, ⟨a2, ws2, rfl, hs2, hp2⟩⟩, hrw2⟩ := id G2
    have lw := Paired.length hp
    have lw2 := Paired.length hp2
    refine ⟨_, (pss_cons (ps_if (pt_not (pt_val (pe_callB (isiK K rfl) (by rfl) T.z_isinstance (by decide +kernel) (pa_cons (pv 1) (pa_cons (pe_glob (by rfl) T.g_Grid (show RelV (.ref T.C_Grid) _ from rfl)) pa_nil)))))
      (pss_one ps_never)
      pss_nil)
      (pss_cons (ps_expr (pe_c (cal_check_same_size T hN hT) hr (by decide) (by rfl) (pa_cons (pv 0) (pa_cons (pv 1) pa_nil))))
      (pss_cons (ps_set (i := 2) sc_Grid_sub.nd rfl (by first | exact .inl rfl | exact .inr rfl) (pe_listZip rfl (by rfl) T.z_list (by rfl) T.z_zip (pa_cons (fldK K rfl (pv 0) rfl) (pa_cons (fldK K rfl (pv 1) rfl) pa_nil))))
      (pss_one (ps_ret (pe_mk (mak_Grid T hN hT) hr (by decide) (by rfl) (pa_cons (pe_lc (own := [("one", 3), ("two", 4)]) (g := (gTup K 2 (gCons (gName 3) (gCons (gName 4) gNil)))) (by rfl) sc_Grid_sub.nd (piS K rfl (pv 2)) ((by show BlkOk ["self", "other", "pairs", "one", "two", "x", "y"] (defScope s_Grid_sub) _ _; exact blkOk_by (by decide +kernel))) (fun _ _ _ _ _ => (pg_tup rfl (pgs_cons (pg_name (i := 3) sc_Grid_sub.nd rfl (by first | exact .inl rfl | exact .inr rfl)) (pgs_cons (pg_name (i := 4) sc_Grid_sub.nd rfl (by first | exact .inl rfl | exact .inr rfl)) pgs_nil)))) (fun _ _ _ _ _ => pts_nil) (fun _ _ _ _ _ => (pe_lc (own := [("x", 5), ("y", 6)]) (g := (gTup K 2 (gCons (gName 5) (gCons (gName 6) gNil)))) (by rfl) sc_Grid_sub.nd (piZipT K rfl (by rfl) T.z_zip (pa_cons (pv 3) (pa_cons (pv 4) pa_nil)) (fun _ _ _ _ f h => let ⟨v, e, u, e2, h⟩ := h; ⟨v, e, u, e2, f _ _ h⟩)) ((by show BlkOk ["self", "other", "pairs", "one", "two", "x", "y"] (relS _ (defScope s_Grid_sub)) _ _; exact blkOk_by (by decide +kernel))) (fun _ _ _ _ _ => (pg_tup rfl (pgs_cons (pg_name (i := 5) sc_Grid_sub.nd rfl (by first | exact .inl rfl | exact .inr rfl)) (pgs_cons (pg_name (i := 6) sc_Grid_sub.nd rfl (by first | exact .inl rfl | exact .inr rfl)) pgs_nil)))) (fun _ _ _ _ _ => pts_nil) (fun _ _ _ _ _ => (pe_op op_sub (pv 5) (pv 6)))))) (pa_cons (fldK K rfl (pv 0) rfl) pa_nil)))))))), ?_⟩
    refine ⟨_, rfl, .ref p2, .ref T.C_Grid, _, _, true, rfl, .own _, .base (.ins ho2 T.cl_Grid T.kc_Grid T.kg_Grid T.kt_Grid T.km_Grid), ?_, true, rfl, ?_⟩
    · unfold PySem.W.kitOne
      rw [if_pos (beq_self_eq_true _)]
    refine iteF ?_
    refine ⟨_, rfl, _, rfl, .ref p, m, n, .ref p2, m2, rfl, G, G2, hlm, ?_⟩
    -- pairs = list(zip(self.rows, other.rows))
    refine ⟨_, rfl, p, T.C_Grid, dx, _, _, rfl, ho, T.cl_Grid, T.n_rows, flds_rows _ _, _, rfl, p2, T.C_Grid, dx2, _, _, rfl, ho2, T.cl_Grid, T.n_rows, flds_rows _ _, ?_⟩
    refine ⟨a, a2, ws, ws2, rfl, hs, hs2, by omega, fun H1 pr ts s1 npr _ epr lts hts => ?_⟩
    -- the outer comprehension
    refine ⟨_, rfl, pr, _, rfl, .inl (.inl (.inl epr)), fun J G0 W hG D hD => ?_⟩
    have hPD : pr ≠ D := ne_of_none epr hD
    refine lc_all W hD (by rw [List.length_map]; omega) (fun H4 s4 => hG H4 fun b _ o => s4 b o) (fun i v H4 => ∃ p, v = V.ref p ∧ p ≠ D ∧ H4 p = some (.lst (((zipM (fun x y => x - y) m m2).getD i []).map V.int))) lists_mono ?_ gm_pair ?_
    · rintro i x H4 H4' acc Ko hi s4 eD ⟨rfl, ex⟩ k
      rw [List.length_map] at hi
      obtain ⟨tj, etj, rfl⟩ : ∃ tj, ts[i]? = some tj ∧ x = V.ref tj := by
        rw [List.getElem?_map] at ex
        obtain ⟨tj, e1, e2⟩ := Option.map_eq_some_iff.mp ex
        exact ⟨tj, e1, e2.symm⟩
      obtain ⟨x1, x2, ex1, ex2, et⟩ := hts i tj etj
      obtain ⟨r, er, b, rfl, hb⟩ := Paired.getR hp ex1
      obtain ⟨r2, er2, b2, rfl, hb2⟩ := Paired.getR hp2 ex2
      have hrl := hrw r (List.mem_of_getElem? er)
      have hrl2 := hrw2 r2 (List.mem_of_getElem? er2)
      have sm := s1.trans s4
      have eg : (zipM (fun x y => x - y) m m2).getD i [] = List.zipWith (fun x y => x - y) r r2 := by
        unfold zipM
        rw [List.getD_eq_getElem?_getD, List.getElem?_zipWith, er, er2]
        rfl
      refine ⟨tj, [.ref b, .ref b2], rfl, .inl (.inl (s4 _ _ et)), rfl, .ref b, [.ref b2], rfl, .ref b2, [], rfl, rfl, ?_⟩
      refine ⟨rfl, ?_⟩
      -- the inner one
      have hb4 := Same.seqT sm hb
      have hb24 := Same.seqT sm hb2
      refine ⟨_, rfl, _, rfl, b, b2, _, _, rfl, hb4, hb24, fun D2 hD2 => ?_⟩
      have W2 : Walk (RZ.ItzT K b b2) n (fun H => SqT K H b (r.map V.int) ∧ SqT K H b2 (r2.map V.int)) (YPair (fun i => (r.map V.int)[i]?) (fun i => (r2.map V.int)[i]?)) := walk_zipT (by rw [List.length_map, List.length_map, hrl, hrl2, Nat.min_self])
      refine lc_all W2 hD2 hw (fun H5 s5 => ⟨Same.seqT s5 hb4, Same.seqT s5 hb24⟩) (fun j v _ => ∃ z, ((zipM (fun x y => x - y) m m2).getD i [])[j]? = some z ∧ v = .int z) (fun _ _ _ _ _ _ _ h => h) ?_ gm_pair ?_
      · rintro j y H5 H5' acc2 Ko2 hj s5 eD2 ⟨U, y1, y2, rfl, nU, rfl, f1, f2⟩ k2
        obtain ⟨z1, ez1, rfl⟩ := ints_get f1
        obtain ⟨z2, ez2, rfl⟩ := ints_get f2
        refine g_pair nU ⟨rfl, ?_⟩
        refine ⟨_, rfl, _, rfl, _, _, rfl, rfl, ?_⟩
        refine k2 _ _ (same_upd nU) ⟨z1 - z2, ?_, rfl⟩
        rw [eg, List.getElem?_zipWith, ez1, ez2]
      · intro H5 l s5 eD2 hpl
        have el := ints_list (by rw [eg, List.length_zipWith, hrl, hrl2, Nat.min_self]) hpl
        refine k _ _ s5 ⟨D2, rfl, ?_, by rw [← el]; exact eD2⟩
        rintro rfl
        rw [eD] at hD2
        cases hD2
    · intro H4 l s4 eD hpl
      have hrows := lists_rows (K := K) (m := zipM (fun x y => x - y) m m2) (by unfold zipM; rw [List.length_map, List.length_zipWith, lts]; omega) eD hpl
      have sm := s1.trans s4
      refine ⟨_, rfl, p, T.C_Grid, dx, _, _, rfl, sm _ _ ho, T.cl_Grid, T.n_width, flds_width _ _, ?_⟩
      exact make_grid hrows (by unfold zipM; rw [List.length_zipWith]; omega) hw (zipM_row hrw hrw2) fun g H' s' G' => q g H' (sm.trans s') G'

end
end K01
namespace K01
open PySem PySem.Spec PyProof.Rows L2 Gm
open C8 (Cal Met Mak pe_c pe_mt pe_mt0 pe_mk)
section
variable {P : Program} {w : World} {K : PySem.W.Frag} {mg : Str → Option Value} {base : Heap}
/-! ### a Grid walked -/
def sp_Grid_iter (n : Nat) (K : PySem.W.Frag) (C : Addr) : Sp := fun vs H Q _ => ∃ v m w, vs = [v] ∧ IsGrid K C H v m w ∧ ∀ l ws it, SqT K H l ws → Paired (TRow K H) ws m → H it = none → n ≤ it → Q (.ref it) (upd H it (ItT l it))
theorem at_Grid_iter (T : Top K mg) (hN : base.NoSeer) (hT : P.given.tree = none) (n : Nat) : FnAt n P w K mg base 1 T.a_Grid_iter T.d_Grid_iter ["self"] (sp_Grid_iter n K T.C_Grid) := by
  refine fn_at T.F_Grid_iter sc_Grid_iter (fun vs H Q E h => ?_) (fun cdv A outer s H vs Q E hn hr h => ?_)
  · obtain ⟨v, m, w, rfl, _⟩ := h
    rfl
  · obtain ⟨v, m, w, rfl, G, q⟩ := h
    obtain ⟨⟨p, dx, t, rfl, ho, ⟨a, ws, rfl, hs, hp⟩⟩, hrw⟩ := id G
    refine ⟨_, PSs.nox (pss_one (ps_ret (pe_callB (call_iterT) (by rfl) T.z_iter (by decide +kernel) (pa_cons (fldK K rfl (pv 0) rfl) pa_nil)))), ?_⟩
    refine ⟨_, rfl, p, T.C_Grid, dx, _, _, rfl, ho, T.cl_Grid, T.n_rows, flds_rows _ _, a, ws, rfl, hs, fun it nit hle => ?_⟩
    exact q a ws it hs hp nit (Nat.le_trans hn hle)
theorem pi_grid (T : Top K mg) (hN : base.NoSeer) (hT : P.given.tree = none) {X : Cx} {tg e : Expr} {te : TE} {j : Nat} (hP : X.prog = P) (hw : X.w = w) (hK : X.K = K) (hm : X.mg = mg) (hb : X.base = base) (n : Nat) (hn : X.s_0.heap.objs.size = n) (hr : Room j X.A) (hj : 1 ≤ j) (he : PE X e te) :
    PI X tg e (iOwnT K n T.C_Grid (sp_Grid_iter n K T.C_Grid) te) := by
  subst hP hw hK hm hb hn
  exact pi_ownT T.m_Grid_iter.at_ T.m_Grid_iter.fn (at_Grid_iter T hN hT _) (hr.mono hj) T.b_Grid_iter he

end
end K01
namespace K01
open PySem PySem.Spec PyProof.Rows L2 Gm
open C8 (Cal Met Mak pe_c pe_mt pe_mt0 pe_mk)
section
variable {P : Program} {w : World} {K : PySem.W.Frag} {mg : Str → Option Value} {base : Heap}
theorem exm1 {K : PySem.W.Frag} {S : Addr} (h1 : PySem.W.subIn K (.ref S) (.type "BaseException") = some true) (h2 : PySem.W.isClsIn K S = true) (h3 : PySem.W.typeIn K (.ref S) = some (.type "type")) (h4 : PySem.W.subIn K (.ref S) (.ref S) = some true) :
    PySem.W.exmOne K (.ref S) (.ref S) = some true := by
  have e1 : (PySem.W.subIn K (.ref S) (.type "BaseException") == some true) = true := by rw [h1] <;> rfl
  have e2 : ((PySem.W.clsIn K S).isSome && PySem.W.typeIn K (.ref S) == some (.type "type")) = true := by
    have h2' : (PySem.W.clsIn K S).isSome = true := h2
    rw [h2', h3] <;> rfl
  show (if (PySem.W.subIn K (.ref S) (.type "BaseException") == some true) = true then (if ((PySem.W.clsIn K S).isSome && PySem.W.typeIn K (.ref S) == some (.type "type")) = true then PySem.W.subIn K (.ref S) (.ref S) else none) else none) = some true
  rw [if_pos e1, if_pos e2]
  exact h4
/-! ### _law_malformed -/
theorem made0 {H9 : Hp} {x xd C : Addr} (nx : H9 x = none) (nd : H9 xd = none) : Same H9 (upd (upd H9 xd (.own x)) x (.ins C xd [])) := fun b u e => by
  rw [upd_ne (ne_of_none e nx), upd_ne (ne_of_none e nd)]
  exact e
theorem made_off {H9 H' : Hp} {x xd C : Addr} (nx : H9 x = none) (nd : H9 xd = none) (o : Off x (upd (upd H9 xd (.own x)) x (.ins C xd [])) H') : Same H9 H' := fun b u e => o _ _ (ne_of_none e nx) (made0 nx nd _ _ e)
/-- for_it for a body that is told by what follows it -/
theorem for_itB {J : It} {n : Nat} {G0 : Hp → Prop} {Y : Nat → Hp → V → Hp → Prop} (wk : Walk J n G0 Y) {g : TG} {B : (L2.St → Hp → Prop) → L2.St → Hp → Prop} {Dn : L2.St → Hp → Prop} {σ : L2.St} {H : Hp} (Pv : Nat → L2.St → Hp → Prop) (h0 : Pv 0 σ H) (hG : ∀ i σ H, i ≤ n → Pv i σ H → G0 H)
    (hs : ∀ i x σ H H', i < n → Pv i σ H → Y i H x H' → g x σ H' fun σ2 H2 => B (Pv (i + 1)) σ2 H2) (hd : ∀ σ H, Pv n σ H → Dn σ H) :
    ∃ W : Nat → Nat → L2.St → Hp → Prop, (∃ m, W 0 m σ H) ∧ ∀ i m σ H, W i m σ H →
      (J.stop i H ∧ Dn σ H) ∨ (J.go i H ∧ ∃ N : L2.St → Hp → Prop, (∀ σ' H', N σ' H' → ∃ m', m' < m ∧ W (i + 1) m' σ' H') ∧ ∀ x H', J.yld i H x H' → g x σ H' fun σ2 H2 => B N σ2 H2) :=
  for_it (D := { nx := Dn, rt := fun _ _ => False, bk := Dn, ct := Dn }) (tb := fun E => B E.nx) wk Pv h0 hG hs hd
theorem fn_or {P : Program} {w : World} {K : PySem.W.Frag} {mg : Str → Option Value} {base : Heap} {CX : CXT} {k : Nat} {f : Addr} {fd : FuncData} {ps : List Str} {sp1 sp2 : Sp} (F1 : FnOk P w K mg base CX k f fd ps sp1) (F2 : FnOk P w K mg base CX k f fd ps sp2) : FnOk P w K mg base CX k f fd ps (fun vs H Q E => sp1 vs H Q E ∨ sp2 vs H Q E) :=
  ⟨fun vs H Q E h => h.elim (F1.len vs H Q E) (F2.len vs H Q E), fun A o s H args us vs Q E hr e b v h => h.elim (fun h => F1.run A o s H args us vs Q E hr e b v h) fun h => F2.run A o s H args us vs Q E hr e b v h⟩
def sp_Grid_init_XX (K : PySem.W.Frag) (C X : Addr) : Sp := fun vs H Q E => sp_Grid_init_XR K C X vs H Q E ∨ sp_Grid_init_XW K C X vs H Q E
theorem ok_Grid_init_XX (T : Top K mg) (hN : base.NoSeer) (hT : P.given.tree = none) : FnOk P w K mg base (L2.CX P w) 3 T.a_Grid_init T.d_Grid_init ["self", "rows", "width"] (sp_Grid_init_XX K T.C_Grid T.X_Malformed) := fn_or (ok_Grid_init_XR T hN hT) (ok_Grid_init_XW T hN hT)
def sp_law_malformed (K : PySem.W.Frag) (C : Addr) : Sp := fun vs H Q _ => ∃ (v : V) (kk : Nat), vs = [v, .int kk] ∧ IsGrid K C H v [[1, 2], [3, 4]] 2 ∧ kk < 4 ∧ ∀ H', Same H H' → Q (.int 3) H'
theorem ok_law_malformed (T : Top K mg) (hN : base.NoSeer) (hT : P.given.tree = none) : FnOk P w K mg base CX0 7 T.a_law_malformed T.d_law_malformed ["a", "k"] (sp_law_malformed K T.C_Grid) := by
  refine T.F_law_malformed.ok sc_law_malformed (fun vs H Q E h => ?_) (fun cdv A outer s H vs Q E hr h => ?_)
  · obtain ⟨v, kk, rfl, _⟩ := h
    rfl
  · obtain ⟨v, kk, rfl, G, hk, q⟩ := h
    obtain ⟨⟨p, dx, t, rfl, ho, ht⟩, hrw⟩ := id G
    obtain ⟨ds2, vN2, bN2⟩ := T.F_Grid_init.binds1 (ps := ["self", "rows", "width"]) 2 0 (by simp) rfl fun _ _ _ _ _ _ _ us its hl hi => match us, hl, its, hi with | [_, _], _, [_], _ => ⟨_, rfl, rfl⟩
    have eX := exm1 T.bX_Malformed T.iX_Malformed T.tX_Malformed T.sX_Malformed
    refine ⟨_, (pss_cons (ps_set (i := 2) sc_law_malformed.nd rfl (by first | exact .inl rfl | exact .inr rfl) (pe_mk (mak_Grid T hN hT) hr (by decide) (by rfl) (pa_cons (pe_lst (pa_cons (pe_lc (own := [("j", 5)]) (g := (gName 5)) (by rfl) sc_law_malformed.nd (pi_range1 (by rfl) T.z_range (pa_cons (pe_op op_add (fldK K rfl (pv 0) rfl) pe_int) pa_nil)) ((by show BlkOk ["a", "k", "wide", "count", "turn", "j", "row"] (defScope s_law_malformed) _ _; exact blkOk_by (by decide +kernel))) (fun _ _ _ _ _ => (pg_name (i := 5) sc_law_malformed.nd rfl (by first | exact .inl rfl | exact .inr rfl))) (fun _ _ _ _ _ => pts_nil) (fun _ _ _ _ _ => pe_int)) pa_nil)) (pa_cons (pe_op op_add (fldK K rfl (pv 0) rfl) pe_int) pa_nil))))
      (pss_cons (ps_set (i := 3) sc_law_malformed.nd rfl (by first | exact .inl rfl | exact .inr rfl) pe_int)
      (pss_cons (ps_for PassesOwn.never rfl (pi_range1 (by rfl) T.z_range (pa_cons pe_int pa_nil)) (pg_name (i := 4) sc_law_malformed.nd rfl (by first | exact .inl rfl | exact .inr rfl))
      (pss_one (ps_try_only (Wout := fun _ _ _ _ => False) rfl rfl ⟨rfl, by decide, Or.inl T.gX_Malformed⟩ takes0 (fun W pn xe tk _ => (pss_cons (ps_if (pt_cmpR op_eq (pv 4) pe_int (nomark _))
      (pss_one (ps_expr (pe_makeS (E := WE W) T.mk_Grid (ok_Grid_init_XX T hN hT) (hr.mono (by decide)) (by rfl) T.g_Grid bN2 vN2 (fun σ => passAt tk σ) (pa_cons (pe_ifExp (pt_cmpR op_eq (pv 1) pe_int (nomark _)) (pe_lst (pa_cons (pe_lst (pa_cons pe_int (pa_cons pe_int pa_nil))) (pa_cons (pe_lst (pa_cons pe_int pa_nil)) pa_nil))) (pe_ifExp (pt_cmpR op_eq (pv 1) pe_int (nomark _)) (pe_lst (pa_cons (pe_lst (pa_cons pe_int (pa_cons pe_bl pa_nil))) pa_nil)) (pe_ifExp (pt_cmpR op_eq (pv 1) pe_int (nomark _)) (pe_lst (pa_cons (pe_lst (pa_cons pe_str pa_nil)) pa_nil)) (pe_lst (pa_cons (pe_tup (pa_cons pe_int pa_nil)) (pa_cons (pe_tup (pa_cons pe_int (pa_cons pe_int pa_nil))) pa_nil)))))) pa_nil))))
      pss_nil)
      (pss_cons (ps_if (pt_cmpR op_eq (pv 4) pe_int (nomark _))
      (pss_one (ps_expr (pe_methS (E := WE W) (pv 0) T.cl_Grid T.m_Grid_stacked (ok_stacked_X T hN hT) (hr.mono (by decide)) T.b_Grid_stacked (fun σ => passAt tk σ) (pa_cons (pv 2) pa_nil))))
      pss_nil)
      (pss_one (ps_if (pt_cmpR op_eq (pv 4) pe_int (nomark _))
      (pss_one (ps_set (i := 2) sc_law_malformed.nd rfl (by first | exact .inl rfl | exact .inr rfl) (pe_ifExp (pt_cmpR op_eq (pe_op op_mod (pv 1) pe_int) pe_int (nomark _)) (pe_opS (op := .Add) (E := WE W) T.sf_Grid T.m_Grid_add.at_ T.m_Grid_add.fn (ok_Grid_add_X T hN hT) (hr.mono (by decide)) T.b_Grid_add (fun σ => passAt tk σ) (pv 0) (pv 2)) (pe_opS (op := .Mult) (E := WE W) T.sf_Grid T.m_Grid_mul.at_ T.m_Grid_mul.fn (ok_Grid_mul_X T hN hT) (hr.mono (by decide)) T.b_Grid_mul (fun σ => passAt tk σ) (pv 2) (pe_mt (met_Grid_stacked T hN hT) hr (by decide) (pe_mt (met_Grid_stacked T hN hT) hr (by decide) (pv 0) (pa_cons (pe_mk (mak_Grid T hN hT) hr (by decide) (by rfl) (pa_cons (pe_lst (pa_cons (pe_mt (met_Grid_before T hN hT) hr (by decide) (pv 0) (pa_cons (pe_callTy (tupK K rfl) (by rfl) T.z_tuple (by decide +kernel) (pa_cons (pe_lc (own := [("row", 6)]) (g := (gName 6)) (by rfl) sc_law_malformed.nd (pi_grid T hN hT rfl rfl rfl rfl rfl s.heap.objs.size rfl hr (by decide) (pv 0)) ((by show BlkOk ["a", "k", "wide", "count", "turn", "j", "row"] (defScope s_law_malformed) _ _; exact blkOk_by (by decide +kernel))) (fun _ _ _ _ _ => (pg_name (i := 6) sc_law_malformed.nd rfl (by first | exact .inl rfl | exact .inr rfl))) (fun _ _ _ _ _ => pts_nil) (fun _ _ _ _ _ => pe_int)) pa_nil)) pa_nil)) pa_nil)) (pa_cons (fldK K rfl (pv 0) rfl) pa_nil))) pa_nil)) (pa_cons (pv 0) pa_nil))))))
      pss_nil))))) (fun _ _ _ _ _ _ _ => (pss_one (ps_set (i := 3) sc_law_malformed.nd rfl (by first | exact .inl rfl | exact .inr rfl) (pe_op op_add (pv 3) pe_int)))))))
      (pss_one (ps_ret (pv 3)))))), ?_⟩
    -- wide
    refine ⟨_, rfl, p, T.C_Grid, dx, _, _, rfl, ho, T.cl_Grid, T.n_width, flds_width _ _, _, _, rfl, rfl, _, rfl, by omega, by omega, fun D hD => ?_⟩
    refine lc_all walk_range hD (by decide) (fun _ _ => trivial) (fun j v _ => ∃ z, ([0, 0, 0] : List Int)[j]? = some z ∧ v = .int z) (fun _ _ _ _ _ _ _ h => h) ?_ gm_name ?_
    · rintro j y H5 H5' acc2 Ko2 hj s5 eD2 ⟨rfl, rfl⟩ k2
      refine ⟨rfl, ?_⟩
      refine k2 _ _ (Same.refl _) ⟨0, ?_, rfl⟩
      have hj' : j < 3 := hj
      obtain rfl | rfl | rfl : j = 0 ∨ j = 1 ∨ j = 2 := by omega
      all_goals rfl
    · intro H5 l s5 eD hpl
      have el := ints_list (ns := [0, 0, 0]) rfl hpl
      subst el
      refine ⟨by show 1 ≤ sizeLine; decide, fun R nR => ?_⟩
      have s6 := same_upd (o := .lst [.ref D]) nR
      refine ⟨_, rfl, p, T.C_Grid, dx, _, _, rfl, s6 _ _ (s5 _ _ ho), T.cl_Grid, T.n_width, flds_width _ _, _, _, rfl, rfl, ?_⟩
      intro x xd nx nxd nex
      have hwide : IRows K (upd H5 R (.lst [.ref D])) (.ref R) [[0, 0, 0]] := ⟨R, _, rfl, .inl (.inl (.inl upd_same)), .cons ⟨D, rfl, .inl (.inl (.inl (s6 _ _ eD)))⟩ .nil⟩
      refine make_grid2 (C := T.C_Grid) (m := [[0, 0, 0]]) (w := 3) nx nxd hwide (by decide) (by decide) (by decide) fun H7 s7 G7 => ⟨rfl, ?_⟩
      have sH7 := s5.trans (s6.trans s7)
      have Ga := IsGrid.same sH7 G
      -- for turn in range(3)
      refine ⟨_, rfl, by decide, by decide, ?_⟩
      refine for_itB walk_range (fun i σ H2 => ∃ y4, σ = [some (.ref p), some (.int kk), some (.ref x), some (.int i), y4, none, none] ∧ Same H7 H2) ⟨none, rfl, Same.refl _⟩ (fun _ _ _ _ _ => trivial) ?_ ?_
      · rintro i zz σ H2 H2' hi ⟨y4, rfl, s2⟩ ⟨rfl, rfl⟩
        have hi' : i < 3 := hi
        have Ga2 := IsGrid.same s2 Ga
        have Gw2 := IsGrid.same s2 G7
        obtain rfl | rfl | rfl : i = 0 ∨ i = 1 ∨ i = 2 := by omega
        · refine ⟨_, rfl, rfl, _, rfl, ?_⟩
          refine iteT ?_
          obtain rfl | rfl | rfl | rfl : kk = 0 ∨ kk = 1 ∨ kk = 2 ∨ kk = 3 := by omega
          · refine ⟨_, rfl, rfl, _, rfl, ?_⟩
            refine iteT ?_
            refine ⟨by show 2 ≤ sizeLine; decide, fun l1 m1 => ?_⟩
            have t1 := same_upd (o := .lst [.int 1, .int 2]) m1
            refine ⟨by show 1 ≤ sizeLine; decide, fun l2 m2 => ?_⟩
            have t2 := same_upd (o := .lst [.int 3]) m2
            refine ⟨by show 2 ≤ sizeLine; decide, fun l3 m3 => ?_⟩
            have t3 := same_upd (o := .lst [.ref l1, .ref l2]) m3
            intro x2 xd2 nx2 nxd2 nex2
            have s0 := made0 (C := T.C_Grid) nx2 nxd2
            refine .inr ⟨x2, xd2, .ref l3, [[1, 2], [3]], 1, rfl, upd_same, ⟨l3, [.ref l1, .ref l2], rfl, .inl (.inl (.inl (s0 _ _ upd_same))), .cons ⟨l1, rfl, .inl (.inl (.inl (s0 _ _ (t3 _ _ (t2 _ _ upd_same)))))⟩ (.cons ⟨l2, rfl, .inl (.inl (.inl (s0 _ _ (t3 _ _ upd_same))))⟩ .nil)⟩, by decide, by decide, by decide, ⟨[1, 2], [3], rfl, rfl, by decide⟩, fun H' o => ?_⟩
            refine ⟨true, eX, fun _ _ _ => ?_, fun z => nomatch z⟩
            refine ⟨_, rfl, _, _, rfl, rfl, ?_⟩
            exact ⟨_, rfl, s2.trans (t1.trans (t2.trans (t3.trans (made_off nx2 nxd2 o))))⟩
          · refine ⟨_, rfl, rfl, _, rfl, ?_⟩
            refine iteF ?_
            refine ⟨_, rfl, rfl, _, rfl, ?_⟩
            refine iteT ?_
            refine ⟨by show 2 ≤ sizeLine; decide, fun l1 m1 => ?_⟩
            have t1 := same_upd (o := .lst [.int 1, .bl true]) m1
            refine ⟨by show 1 ≤ sizeLine; decide, fun l2 m2 => ?_⟩
            have t2 := same_upd (o := .lst [.ref l1]) m2
            intro x2 xd2 nx2 nxd2 nex2
            have s0 := made0 (C := T.C_Grid) nx2 nxd2
            refine .inl ⟨x2, xd2, l2, l1, .non, [.int 1, .bl true], rfl, .inl (.inl (.inl (s0 _ _ upd_same))), .inl (.inl (.inl (s0 _ _ (t2 _ _ upd_same)))), fun z hz => ?_, by decide, rfl, fun H' o => ?_⟩
            · rcases List.mem_cons.mp hz with rfl | hz
              · exact .inl ⟨1, rfl⟩
              · obtain rfl := List.mem_singleton.mp hz
                exact .inr (.inl ⟨true, rfl⟩)
            refine ⟨true, eX, fun _ _ _ => ?_, fun z => nomatch z⟩
            refine ⟨_, rfl, _, _, rfl, rfl, ?_⟩
            exact ⟨_, rfl, s2.trans (t1.trans (t2.trans (s0.trans o)))⟩
          · refine ⟨_, rfl, rfl, _, rfl, ?_⟩
            refine iteF ?_
            refine ⟨_, rfl, rfl, _, rfl, ?_⟩
            refine iteF ?_
            refine ⟨_, rfl, rfl, _, rfl, ?_⟩
            refine iteT ?_
            refine ⟨by show 1 ≤ sizeLine; decide, fun l1 m1 => ?_⟩
            have t1 := same_upd (o := .lst [.str "1"]) m1
            refine ⟨by show 1 ≤ sizeLine; decide, fun l2 m2 => ?_⟩
            have t2 := same_upd (o := .lst [.ref l1]) m2
            intro x2 xd2 nx2 nxd2 nex2
            have s0 := made0 (C := T.C_Grid) nx2 nxd2
            refine .inl ⟨x2, xd2, l2, l1, .non, [.str "1"], rfl, .inl (.inl (.inl (s0 _ _ upd_same))), .inl (.inl (.inl (s0 _ _ (t2 _ _ upd_same)))), fun z hz => ?_, by decide, rfl, fun H' o => ?_⟩
            · obtain rfl := List.mem_singleton.mp hz
              exact .inr (.inr ⟨_, rfl⟩)
            refine ⟨true, eX, fun _ _ _ => ?_, fun z => nomatch z⟩
            refine ⟨_, rfl, _, _, rfl, rfl, ?_⟩
            exact ⟨_, rfl, s2.trans (t1.trans (t2.trans (s0.trans o)))⟩
          · refine ⟨_, rfl, rfl, _, rfl, ?_⟩
            refine iteF ?_
            refine ⟨_, rfl, rfl, _, rfl, ?_⟩
            refine iteF ?_
            refine ⟨_, rfl, rfl, _, rfl, ?_⟩
            refine iteF ?_
            refine ⟨by show 1 ≤ sizeLine; decide, fun l1 m1 => ?_⟩
            have t1 := same_upd (o := .tup [.int 1]) m1
            refine ⟨by show 2 ≤ sizeLine; decide, fun l2 m2 => ?_⟩
            have t2 := same_upd (o := .tup [.int 2, .int 3]) m2
            refine ⟨by show 2 ≤ sizeLine; decide, fun l3 m3 => ?_⟩
            have t3 := same_upd (o := .lst [.ref l1, .ref l2]) m3
            intro x2 xd2 nx2 nxd2 nex2
            have s0 := made0 (C := T.C_Grid) nx2 nxd2
            refine .inr ⟨x2, xd2, .ref l3, [[1], [2, 3]], 1, rfl, upd_same, ⟨l3, [.ref l1, .ref l2], rfl, .inl (.inl (.inl (s0 _ _ upd_same))), .cons ⟨l1, rfl, .inr (.inl (.inl (s0 _ _ (t3 _ _ (t2 _ _ upd_same)))))⟩ (.cons ⟨l2, rfl, .inr (.inl (.inl (s0 _ _ (t3 _ _ upd_same))))⟩ .nil)⟩, by decide, by decide, by decide, ⟨[1], [2, 3], rfl, rfl, by decide⟩, fun H' o => ?_⟩
            refine ⟨true, eX, fun _ _ _ => ?_, fun z => nomatch z⟩
            refine ⟨_, rfl, _, _, rfl, rfl, ?_⟩
            exact ⟨_, rfl, s2.trans (t1.trans (t2.trans (t3.trans (made_off nx2 nxd2 o))))⟩
        · refine ⟨_, rfl, rfl, _, rfl, ?_⟩
          refine iteF ?_
          refine ⟨_, rfl, rfl, _, rfl, ?_⟩
          refine iteT ?_
          obtain ⟨⟨pa, da, ta, ea, hoa, hta⟩, _⟩ := id Ga2
          cases ea
          refine ⟨_, rfl, p, da, _, rfl, hoa, m_stacked _ _, _, rfl, .ref p, [[1, 2], [3, 4]], 2, .ref x, [[0, 0, 0]], 3, rfl, Ga2, Gw2, by decide, ?_⟩
          refine ⟨true, eX, fun _ _ _ => ?_, fun z => nomatch z⟩
          refine ⟨_, rfl, _, _, rfl, rfl, ?_⟩
          exact ⟨_, rfl, s2⟩
        · refine ⟨_, rfl, rfl, _, rfl, ?_⟩
          refine iteF ?_
          refine ⟨_, rfl, rfl, _, rfl, ?_⟩
          refine iteF ?_
          refine ⟨_, rfl, rfl, _, rfl, ?_⟩
          refine iteT ?_
          obtain ⟨⟨pa, da, ta, ea, hoa, hta⟩, _⟩ := id Ga2
          cases ea
          obtain ⟨⟨pw, dw, tw, ew, how, htw⟩, _⟩ := id Gw2
          cases ew
          refine ⟨_, rfl, _, _, rfl, rfl, by show (0 : Int) < 2; decide, rfl, _, rfl, ?_⟩
          by_cases hpar : kk % 2 = 0
          · rw [show decide (V.int ((kk : Int) % 2) = V.int 0) = true from decide_eq_true (congrArg V.int (by omega))]
            refine iteT ?_
            refine ⟨_, rfl, _, rfl, p, x, da, dw, _, _, rfl, rfl, hoa, how, .ref p, [[1, 2], [3, 4]], 2, .ref x, [[0, 0, 0]], 3, rfl, Ga2, Gw2, .inl (by decide), ?_⟩
            refine ⟨true, eX, fun _ _ _ => ?_, fun z => nomatch z⟩
            refine ⟨_, rfl, _, _, rfl, rfl, ?_⟩
            exact ⟨_, rfl, s2⟩
          · rw [show decide (V.int ((kk : Int) % 2) = V.int 0) = false from decide_eq_false fun z => hpar (by have := V.int.inj z; omega)]
            refine iteF ?_
            refine ⟨_, rfl, _, rfl, p, da, _, rfl, hoa, m_stacked _ _, _, rfl, p, da, _, rfl, hoa, m_before _ _, _, rfl, p, da, _, rfl, hoa, ?_⟩
            refine ⟨.ref p, [[1, 2], [3, 4]], 2, rfl, Ga2, fun l ws it hsl hpl nit hle => ⟨it, l, rfl, upd_same, hle, ?_⟩⟩
            rw [ItX.dropH_upd nit]
            intro D2 hD2
            have lws := Paired.length hpl
            refine lc_all (walk_tup (xs := ws)) hD2 (by rw [lws]; decide) (fun H4 s4 => Same.seqT s4 hsl) (fun j v _ => ∃ z, ([0, 0] : List Int)[j]? = some z ∧ v = .int z) (fun _ _ _ _ _ _ _ h => h) ?_ gm_name ?_
            · rintro j y H8 H8' acc2 Ko2 hj s8 eD2 ⟨rfl, ey⟩ k2
              refine ⟨rfl, ?_⟩
              refine k2 _ _ (Same.refl _) ⟨0, ?_, rfl⟩
              have hj' : j < 2 := by rw [lws] at hj; exact hj
              obtain rfl | rfl : j = 0 ∨ j = 1 := by omega
              all_goals rfl
            · intro H8 l8 s8 eD2 hpl8
              have el := ints_list (ns := [0, 0]) (by rw [lws]; rfl) hpl8
              subst el
              refine ⟨D2, _, rfl, .inl ⟨.inl (.inl eD2), fun t8 n8 => ?_⟩⟩
              have s9 := s8.trans (same_upd (o := .tup (([0, 0] : List Int).map V.int)) n8)
              have Ga9 := IsGrid.same s9 Ga2
              have Gw9 := IsGrid.same s9 Gw2
              refine ⟨.ref p, [[1, 2], [3, 4]], 2, .ref t8, [0, 0], 3, 1, rfl, Ga9, ⟨t8, rfl, .inl (.inl upd_same)⟩, rfl, by decide, by decide, (show ∀ o ∈ ([[1, 2], [3, 4]] : List (List Int)), ∀ x ∈ o, x.natAbs < 2 ^ 3 by decide), (show ∀ x ∈ ([0, 0] : List Int), x.natAbs < 2 ^ 1 by decide), by decide, fun v' H10 s10 hv' => ?_⟩
              refine ⟨by show 1 ≤ sizeLine; decide, fun R3 nR3 => ?_⟩
              have s11 := s10.trans (same_upd (o := .lst [v']) nR3)
              have Ga11 := IsGrid.same s11 Ga9
              have Gw11 := IsGrid.same s11 Gw9
              have ho11 := s11 _ _ (s9 _ _ hoa)
              refine ⟨_, rfl, p, T.C_Grid, da, _, _, rfl, ho11, T.cl_Grid, T.n_width, flds_width _ _, ?_⟩
              intro z zd nz nzd nez
              have hrow : IRows K (upd H10 R3 (.lst [v'])) (.ref R3) [timesM (transp [[1, 2], [3, 4]] 2) [0, 0]] := ⟨R3, _, rfl, .inl (.inl (.inl upd_same)), .cons (TRow.same (same_upd nR3) hv').row .nil⟩
              refine make_grid2 (C := T.C_Grid) (m := [timesM (transp [[1, 2], [3, 4]] 2) [0, 0]]) (w := 2) nz nzd hrow (by decide) (by decide) (by decide) fun H12 s12 G12 => ⟨rfl, ?_⟩
              have Ga12 := IsGrid.same s12 Ga11
              have Gw12 := IsGrid.same s12 Gw11
              refine ⟨.ref p, [[1, 2], [3, 4]], 2, .ref z, _, rfl, Ga12, G12, by decide, by decide, fun g H13 s13 G13 => ?_⟩
              obtain ⟨⟨pg, dg, tg, rfl, hog, _⟩, _⟩ := id G13
              have Ga13 := IsGrid.same s13 Ga12
              have Gw13 := IsGrid.same s13 Gw12
              refine ⟨pg, dg, _, rfl, hog, m_stacked _ _, _, rfl, .ref pg, _, 2, .ref p, [[1, 2], [3, 4]], rfl, G13, Ga13, by decide, by decide, fun g2 H14 s14 G14 => ?_⟩
              obtain ⟨⟨pg2, dg2, tg2, rfl, hog2, _⟩, _⟩ := id G14
              have Gw14 := IsGrid.same s14 Gw13
              obtain ⟨⟨pw4, dw4, tw4, ew4, how4, _⟩, _⟩ := id Gw14
              cases ew4
              refine ⟨x, pg2, dw4, dg2, _, _, rfl, rfl, how4, hog2, .ref x, [[0, 0, 0]], 3, .ref pg2, _, 2, rfl, Gw14, G14, by decide, ?_⟩
              refine ⟨true, eX, fun _ _ _ => ?_, fun z => nomatch z⟩
              refine ⟨_, rfl, _, _, rfl, rfl, ?_⟩
              exact ⟨_, rfl, s2.trans (s9.trans (s11.trans (s12.trans (s13.trans s14))))⟩
      · rintro σ H2 ⟨y4, rfl, s2⟩
        exact ⟨_, rfl, q _ (sH7.trans s2)⟩
theorem cal_law_malformed (T : Top K mg) (hN : base.NoSeer) (hT : P.given.tree = none) : Cal P w K mg base 7 "_law_malformed" (sp_law_malformed K T.C_Grid) [] := ⟨⟨_, _, _, [], ok_law_malformed T hN hT, T.g_law_malformed, T.F_law_malformed.kp, T.b_law_malformed, .nil⟩⟩

end
end K01
namespace K01
open PySem PySem.Spec PyProof.Rows L2 Gm
open C8 (Cal Met Mak pe_c pe_mt pe_mt0 pe_mk)
section
variable {P : Program} {w : World} {K : PySem.W.Frag} {mg : Str → Option Value} {base : Heap}
/-! ### law: its pieces -/
theorem mak_Grid_N (T : Top K mg) (hN : base.NoSeer) (hT : P.given.tree = none) : Mak P w K mg base 3 "Grid" T.C_Grid (sp_Grid_init_N K T.C_Grid) [.non] := by
  obtain ⟨ds2, vN2, bN2⟩ := T.F_Grid_init.binds1 (ps := ["self", "rows", "width"]) 2 0 (by simp) rfl fun _ _ _ _ _ _ _ us its hl hi => match us, hl, its, hi with | [_, _], _, [_], _ => ⟨_, rfl, rfl⟩
  exact ⟨⟨_, _, _, _, T.mk_Grid, ok_Grid_init_N T hN hT, T.g_Grid, bN2, vN2⟩⟩
theorem StAt.ref {H : Hp} {p : Addr} (h : StAt H p) : ∃ l, H p = some (.lst l) := let ⟨_, _, e, _⟩ := h; ⟨_, e⟩
theorem StAt.same {H H' : Hp} {p : Addr} (s : Same H H') (h : StAt H p) : StAt H' p := let ⟨a, b, e, l⟩ := h; ⟨a, b, s _ _ e, l⟩
theorem trowsP {K : PySem.W.Frag} {H H' : Hp} {p : Addr} {v : V} {m : List (List Int)} (st : StAt H p) (o : Off p H H') (h : TRows K H v m) : TRows K H' v m := let ⟨_, e⟩ := st.ref; h.off e o
theorem trowP {K : PySem.W.Frag} {H H' : Hp} {p : Addr} {v : V} {m : List Int} (st : StAt H p) (o : Off p H H') (h : TRow K H v m) : TRow K H' v m := let ⟨_, e⟩ := st.ref; h.off e o
theorem gridP {K : PySem.W.Frag} {C : Addr} {H H' : Hp} {p : Addr} {v : V} {m : List (List Int)} {w : Nat} (st : StAt H p) (o : Off p H H') (h : IsGrid K C H v m w) : IsGrid K C H' v m w := by
  obtain ⟨⟨q, dx, t, e, ho, ht⟩, hw⟩ := h
  obtain ⟨l, el⟩ := st.ref
  exact ⟨⟨q, dx, t, e, o _ _ (ne_of ho el (by intro z; cases z)) ho, trowsP st o ht⟩, hw⟩
theorem smallB {m : List (List Int)} {M B : Nat} (h : ∀ r ∈ m, ∀ x ∈ r, x.natAbs ≤ M) (hM : M < 2 ^ B) : ∀ r ∈ m, Bits B r := fun r hr x hx => Nat.lt_of_le_of_lt (h r hr x hx) hM
theorem gridL {K : PySem.W.Frag} {C : Addr} {H H' : Hp} {R : Addr} {l : List V} {v : V} {m : List (List Int)} {w : Nat} (el : H R = some (.lst l)) (o : Off R H H') (h : IsGrid K C H v m w) : IsGrid K C H' v m w := by
  obtain ⟨⟨q, dx, t, e, ho, ht⟩, hw⟩ := h
  exact ⟨⟨q, dx, t, e, o _ _ (ne_of ho el (by intro z; cases z)) ho, ht.off el o⟩, hw⟩
def sp_law (K : PySem.W.Frag) : Sp := fun vs H Q _ => ∃ (a : Addr) (ns : List Int), vs = [.ref a] ∧ SqL K H a (ns.map V.int) ∧ ns.length ≤ 63 ∧ (∀ z ∈ ns, Builtin.Int.intBits z ≤ 1048576) ∧ ∀ H', Q (.bl true) H'
/-- what the law has in hand -/
structure Fx (K : PySem.W.Frag) (C : Addr) (H : Hp) (x y z va vb vc : V) (p : Addr) (ma mb mc : List (List Int)) (ww oo : Nat) : Prop where
  gx : IsGrid K C H x ma ww
  gy : IsGrid K C H y mb ww
  gz : IsGrid K C H z mc oo
  ta : TRows K H va ma
  tb : TRows K H vb mb
  tc : TRows K H vc mc
  st : StAt H p
section
variable {K : PySem.W.Frag} {C : Addr} {H H' : Hp} {x y z va vb vc : V} {p R : Addr} {l : List V} {ma mb mc : List (List Int)} {ww oo : Nat}
theorem Fx.same (s : Same H H') (f : Fx K C H x y z va vb vc p ma mb mc ww oo) : Fx K C H' x y z va vb vc p ma mb mc ww oo :=
  ⟨IsGrid.same s f.gx, IsGrid.same s f.gy, IsGrid.same s f.gz, TRows.same s f.ta, TRows.same s f.tb, TRows.same s f.tc, StAt.same s f.st⟩
theorem Fx.off (e : H R = some (.lst l)) (n : p ≠ R) (o : Off R H H') (f : Fx K C H x y z va vb vc p ma mb mc ww oo) : Fx K C H' x y z va vb vc p ma mb mc ww oo :=
  ⟨gridL e o f.gx, gridL e o f.gy, gridL e o f.gz, f.ta.off e o, f.tb.off e o, f.tc.off e o, let ⟨a, b, q, h⟩ := f.st; ⟨a, b, o _ _ n q, h⟩⟩
theorem Fx.offp (st : StAt H' p) (o : Off p H H') (f : Fx K C H x y z va vb vc p ma mb mc ww oo) : Fx K C H' x y z va vb vc p ma mb mc ww oo :=
  ⟨gridP f.st o f.gx, gridP f.st o f.gy, gridP f.st o f.gz, trowsP f.st o f.ta, trowsP f.st o f.tb, trowsP f.st o f.tc, st⟩
end
/-- the sizes -/
structure Fz (ma mb mc : List (List Int)) (hh ww oo : Nat) (kk : Int) : Prop where
  h3 : hh < 4
  w4 : ww < 5
  o3 : oo < 4
  la : ma.length = hh
  lb : mb.length = hh
  lc : mc.length = ww
  wa : ∀ r ∈ ma, r.length = ww
  wb : ∀ r ∈ mb, r.length = ww
  wc : ∀ r ∈ mc, r.length = oo
  ba : ∀ r ∈ ma, Bits 5 r
  bb : ∀ r ∈ mb, Bits 5 r
  bc : ∀ r ∈ mc, Bits 5 r
  k4 : kk.natAbs < 2 ^ 3
/-- weaken -/
theorem pss_wk {X : Cx} {st : List Stmt} {t t' : TS} (h : PSs X st t) (hm : ∀ D σ H, t' D σ H → t D σ H) : PSs X st t' := ⟨fun pins s σ H D I q => h.run pins s σ H D I (hm D σ H q)⟩
def tK (M : L2.St → Hp → Prop) : TS := fun D σ H => M σ H ∧ ∀ H', D.rt (.bl true) H'
abbrev XL (P : Program) (w : World) {K : PySem.W.Frag} {mg : Str → Option Value} (base : Heap) (T : Top K mg) (cdv : Value) (A : Around) (outer : List Env) (s : Shared) (H : Hp) (E : XK) : Cx :=
  (cxOf CX0 P w K mg base ["script", "state", "height", "width", "other", "a", "b", "c", "x", "y", "z", "k", "due", "told", "at", "turned", "row", "line", "both", "i", "p", "q", "j", "given"] "law" (defScope s_law) T.a_law cdv A outer s H E).nox
def M1 (K : PySem.W.Frag) (C : Addr) : L2.St → Hp → Prop := fun σ H => ∃ (a0 p : Addr) (hh ww oo : Nat) (va vb vc x y z : V) (kk : Int) (ma mb mc : List (List Int)) (y12 y13 y14 y15 y16 y17 y18 : Option V),
  σ = [some (.ref a0), some (.ref p), some (.int hh), some (.int ww), some (.int oo), some va, some vb, some vc, some x, some y, some z, some (.int kk), y12, y13, y14, y15, y16, y17, y18, none, none, none, none, none] ∧ Fx K C H x y z va vb vc p ma mb mc ww oo ∧ Fz ma mb mc hh ww oo kk
def M2 (K : PySem.W.Frag) (C : Addr) : L2.St → Hp → Prop := fun σ H => ∃ (a0 p : Addr) (hh ww oo : Nat) (va vb vc x y z : V) (kk : Int) (ma mb mc : List (List Int)) (y12 y13 y14 y15 : Option V) (vr vl : V) (y18 : Option V) (rr ll : List Int),
  σ = [some (.ref a0), some (.ref p), some (.int hh), some (.int ww), some (.int oo), some va, some vb, some vc, some x, some y, some z, some (.int kk), y12, y13, y14, y15, some vr, some vl, y18, none, none, none, none, none] ∧ Fx K C H x y z va vb vc p ma mb mc ww oo ∧ Fz ma mb mc hh ww oo kk ∧ TRow K H vr rr ∧ TRow K H vl ll ∧ rr.length = ww ∧ ll.length = hh ∧ Bits 3 rr ∧ Bits 3 ll
def M0 (K : PySem.W.Frag) (C : Addr) : L2.St → Hp → Prop := fun σ H => ∃ (a0 p : Addr) (hh ww oo : Nat) (va vb vc x y z : V) (kk : Int) (ma mb mc : List (List Int)),
  σ = [some (.ref a0), some (.ref p), some (.int hh), some (.int ww), some (.int oo), some va, some vb, some vc, some x, some y, some z, some (.int kk), none, none, none, none, none, none, none, none, none, none, none, none] ∧ Fx K C H x y z va vb vc p ma mb mc ww oo ∧ Fz ma mb mc hh ww oo kk
theorem make_gridN {K : PySem.W.Frag} {C x dx : Addr} {H1 : Hp} {v : V} {m : List (List Int)} {w : Nat} {Q : VK} {E : XK} (nx : H1 x = none) (nd : H1 dx = none) (hm : IRows K H1 v m) (h0 : 0 < m.length) (hl : m.length ≤ 1000) (hw : w ≤ 1000) (hrw : ∀ r ∈ m, r.length = w) (q : ∀ H', Same H1 H' → IsGrid K C H' (.ref x) m w → Q .non H') :
    sp_Grid_init_N K C [.ref x, v, .non] (upd (upd H1 dx (.own x)) x (.ins C dx [])) Q E := by
  have s0 : Same H1 (upd (upd H1 dx (.own x)) x (.ins C dx [])) := made0 nx nd
  refine ⟨x, dx, v, m, w, rfl, upd_same, hm.same s0, h0, hl, hw, hrw, fun t H' o ho ht => ?_⟩
  exact q _ (made_off nx nd o) ⟨⟨x, dx, t, rfl, ho, ht⟩, hrw⟩
def pdL (m : List (List Int)) : PyData := .list (m.map pdR)
theorem lay_pdL (m : List (List Int)) : (pdL m).canLay0 = true := by simp [pdL, PyData.canLay0, lay_rows m]
theorem shaped_pdL (m : List (List Int)) : SeqAt.shaped (pdL m) = true := by
  unfold SeqAt.shaped
  rw [Bool.and_eq_true, lay_pdL]
  refine ⟨rfl, decide_eq_true ?_⟩
  have := dep_rows m
  simp only [pdL, PyData.depth]
  omega
/-- equal lists of rows are equal -/
theorem ne_rlists {K : PySem.W.Frag} {H : Hp} {p q : Addr} {ws us : List V} {m : List (List Int)} {Q : VK} (h1 : SqL K H p ws) (p1 : Paired (TRow K H) ws m) (h2 : SqL K H q us) (p2 : Paired (TRow K H) us m) (k : Q (.bl false) H) : rNeD K (.ref p) (.ref q) H Q := by
  refine ⟨pdL m, pdL m, .lst h1 (dp_paired p1), .lst h2 (dp_paired p2), shaped_pdL _, shaped_pdL _, ?_⟩
  rw [PySem.SeqAt.eqv_refl _ (lay_pdL m)]
  exact k
theorem lay_pdR (m : List Int) : (pdR m).canLay0 = true := by simp [pdR, PyData.canLay0, lay_ints m]
theorem shaped_pdR (m : List Int) : SeqAt.shaped (pdR m) = true := by
  unfold SeqAt.shaped
  rw [Bool.and_eq_true, lay_pdR]
  refine ⟨rfl, decide_eq_true ?_⟩
  have := dep_ints m
  simp only [pdR, PyData.depth]
  omega
/-- equal rows are equal -/
theorem ne_row {K : PySem.W.Frag} {H : Hp} {v u : V} {r1 r2 : List Int} {Q : VK} (h1 : TRow K H v r1) (h2 : TRow K H u r2) (e : r1 = r2) (k : Q (.bl false) H) : rNeD K v u H Q := by
  subst e
  refine ⟨pdR r1, pdR r1, dp_row h1, dp_row h2, shaped_pdR _, shaped_pdR _, ?_⟩
  rw [PySem.SeqAt.eqv_refl _ (lay_pdR r1)]
  exact k
theorem list_same {ws lst : List V} (h : Paired (fun (i : Nat) v => ws[i]? = some v) (List.range ws.length) lst) : lst = ws := by
  apply List.ext_getElem?
  intro i
  have ln := Paired.length h
  rw [List.length_range] at ln
  by_cases hi : i < ws.length
  · obtain ⟨j, ej, ev⟩ := Paired.getL h (List.getElem?_eq_getElem (show i < lst.length by omega))
    rw [List.getElem?_range hi] at ej
    cases ej
    rw [List.getElem?_eq_getElem (show i < lst.length by omega), ev]
  · rw [List.getElem?_eq_none (by omega), List.getElem?_eq_none (by omega)]
theorem rd_zeros {K : PySem.W.Frag} {i j : Nat} {vs : List Nat} {σ : L2.St} {n : Nat} {H : Hp} {Q : VK} (hi : σ[i]? = some (some (.int (n : Int)))) (hw : ∀ x, wipe (List.set (wipe σ vs) j x) vs = wipe σ vs) (hn : n ≤ 1000) (q : ∀ p H', Same H H' → SqT K H' p ((List.replicate n (0 : Int)).map V.int) → Q (.ref p) H') :
    tCB (rTupleOf K) (tCons (tLc (iRng1 (tCons (tVar i) tNil)) (gName j) tYes (tC (V.int 0)) vs) tNil) σ H Q := by
  refine ⟨_, hi, (n : Int), rfl, by omega, by omega, fun D hD => ?_⟩
  refine lc_all walk_range hD (by omega) (fun _ _ => trivial) (fun j v _ => ∃ z, (List.replicate n (0 : Int))[j]? = some z ∧ v = .int z) (fun _ _ _ _ _ _ _ h => h) ?_ gm_name ?_
  · rintro j y2 H5 H5' acc2 Ko2 hj s5 eD2 ⟨rfl, rfl⟩ k2
    refine ⟨hw _, ?_⟩
    refine k2 _ _ (Same.refl _) ⟨0, ?_, rfl⟩
    rw [List.getElem?_replicate, if_pos (by omega)]
  · intro H5 l s5 eD2 hpl
    have el := ints_list (by rw [List.length_replicate]; omega) hpl
    subst el
    refine ⟨D, _, rfl, .inl ⟨.inl (.inl eD2), fun t nt => ?_⟩⟩
    exact q t _ (s5.trans (same_upd nt)) (.inl (.inl upd_same))
theorem paired_take {α β : Type} {F : α → β → Prop} : ∀ {xs : List α} {ys : List β} (k : Nat), Paired F xs ys → Paired F (xs.take k) (ys.take k)
  | _, _, _, .nil => by simp only [List.take_nil]; exact .nil
  | _, _, 0, .cons _ _ => by simp only [List.take_zero]; exact .nil
  | _, _, k + 1, .cons r t => by simp only [List.take_succ_cons]; exact .cons r (paired_take k t)
theorem paired_drop {α β : Type} {F : α → β → Prop} : ∀ {xs : List α} {ys : List β} (k : Nat), Paired F xs ys → Paired F (xs.drop k) (ys.drop k)
  | _, _, _, .nil => by simp only [List.drop_nil]; exact .nil
  | _, _, 0, .cons r t => .cons r t
  | _, _, k + 1, .cons r t => by simp only [List.drop_succ_cons]; exact paired_drop k t

end
end K01
namespace K01
open PySem PySem.Spec PyProof.Rows L2 Gm
open C8 (Cal Met Mak pe_c pe_mt pe_mt0 pe_mk)
section
variable {P : Program} {w : World} {K : PySem.W.Frag} {mg : Str → Option Value} {base : Heap}
theorem dotI_comm (xs ys : List Int) : dotI xs ys = dotI ys xs := by
  unfold dotI
  rw [List.zipWith_comm]
  congr 2
  funext a b
  exact Int.mul_comm b a
theorem dotI_cons (x y : Int) (xs ys : List Int) : dotI (x :: xs) (y :: ys) = x * y + dotI xs ys := by
  unfold dotI
  rw [List.zipWith_cons_cons, List.sum_cons]
theorem diag_dot0 (c : Int) (i : Nat) : ∀ (ys : List Int) (s : Nat), dotI ((List.range' s ys.length).map fun j => if i = j then c else 0) ys = if s ≤ i then c * ys.getD (i - s) 0 else 0
  | [], s => by
    show (0 : Int) = _
    split
    · simp
    · rfl
  | y :: ys, s => by
    rw [List.length_cons, List.range'_succ, List.map_cons, dotI_cons, diag_dot0 c i ys (s + 1)]
    by_cases h : i = s
    · subst h
      rw [if_pos rfl, if_neg (by omega), if_pos (Nat.le_refl _), Nat.sub_self]
      simp
    · rw [if_neg h]
      by_cases h2 : s ≤ i
      · rw [if_pos (by omega), if_pos h2, show i - s = (i - (s + 1)) + 1 by omega]
        simp
      · rw [if_neg (by omega), if_neg h2]
        simp
theorem diag_dot (c : Int) {i n : Nat} {ys : List Int} (h : ys.length = n) : dotI ((List.range n).map fun j => if i = j then c else 0) ys = c * ys.getD i 0 := by
  have := diag_dot0 c i ys 0
  rw [if_pos (Nat.zero_le _), Nat.sub_zero, h, ← List.range_eq_range'] at this
  exact this
theorem col_get {m : List (List Int)} {k i : Nat} (h : i < m.length) : (m.map fun r => r.getD k 0).getD i 0 = (m.getD i []).getD k 0 := by
  rw [List.getD_eq_getElem?_getD, List.getElem?_map, List.getD_eq_getElem?_getD (l := m), List.getElem?_eq_getElem h]
  rfl
theorem row_tab {r : List Int} {w : Nat} (h : r.length = w) : ((List.range w).map fun k => r.getD k 0) = r := by
  apply List.ext_getElem?
  intro i
  rw [List.getElem?_map]
  by_cases hi : i < w
  · rw [List.getElem?_range hi, List.getElem?_eq_getElem (by omega)]
    show some (r.getD i 0) = _
    rw [List.getD_eq_getElem?_getD, List.getElem?_eq_getElem (by omega)]
    rfl
  · rw [List.getElem?_eq_none (by rw [List.length_range]; omega), List.getElem?_eq_none (by omega)]
    rfl
/-- the rows times the numbers -/
def rowsBy (ll : List Int) (m : List (List Int)) : List (List Int) := (List.range ll.length).map fun i => (m.getD i []).map fun z => ll.getD i 0 * z
theorem mul_diag {ll : List Int} {m : List (List Int)} {w : Nat} (hl : m.length = ll.length) (hw : ∀ r ∈ m, r.length = w) : mulM (diagM ll) m w = rowsBy ll m := by
  unfold mulM diagM rowsBy
  rw [List.map_map]
  apply List.map_congr_left
  intro i hi
  have hi' : i < ll.length := List.mem_range.mp hi
  have hm : m.getD i [] ∈ m := by
    rw [List.getD_eq_getElem?_getD, List.getElem?_eq_getElem (by omega)]
    exact List.getElem_mem _
  show (transp m w).map (fun c => dotI ((List.range ll.length).map fun j => if i = j then ll.getD i 0 else 0) c) = _
  unfold transp
  rw [List.map_map]
  have e : (List.map (fun z => ll.getD i 0 * z) (m.getD i [])) = (List.range w).map fun k => ll.getD i 0 * (m.getD i []).getD k 0 := by
    conv => lhs; rw [← row_tab (hw _ hm), List.map_map]
    rfl
  rw [e]
  apply List.map_congr_left
  intro k _
  show dotI _ (m.map fun r => r.getD k 0) = _
  rw [diag_dot _ (by rw [List.length_map]; exact hl), col_get (by omega)]
theorem rows_ones {m : List (List Int)} {n : Nat} (h : m.length = n) : rowsBy (List.replicate n 1) m = m := by
  unfold rowsBy
  rw [List.length_replicate]
  apply List.ext_getElem?
  intro i
  rw [List.getElem?_map]
  by_cases hi : i < n
  · rw [List.getElem?_range hi, List.getElem?_eq_getElem (by omega)]
    show some (List.map (fun z => (List.replicate n (1 : Int)).getD i 0 * z) (m.getD i [])) = some _
    congr 1
    rw [List.getD_eq_getElem?_getD (l := m), List.getElem?_eq_getElem (by omega), List.getD_eq_getElem?_getD, List.getElem?_replicate, if_pos hi]
    show List.map (fun z => 1 * z) m[i] = m[i]
    simp
  · rw [List.getElem?_eq_none (by rw [List.length_range]; omega), List.getElem?_eq_none (by omega)]
    rfl
theorem unit_mul {m : List (List Int)} {n w : Nat} (hl : m.length = n) (hw : ∀ r ∈ m, r.length = w) : mulM (diagM (List.replicate n 1)) m w = m := by
  rw [mul_diag (by rw [List.length_replicate]; exact hl) hw, rows_ones hl]
theorem diag_tr (ll : List Int) : transp (diagM ll) ll.length = diagM ll := by
  unfold transp
  conv => rhs; unfold diagM
  apply List.map_congr_left
  intro k hk
  have hk' : k < ll.length := List.mem_range.mp hk
  unfold diagM
  rw [List.map_map]
  apply List.map_congr_left
  intro j hj
  have hj' : j < ll.length := List.mem_range.mp hj
  show ((List.range ll.length).map fun i => if j = i then ll.getD j 0 else 0).getD k 0 = _
  rw [List.getD_eq_getElem?_getD, List.getElem?_map, List.getElem?_range hk']
  show (if j = k then ll.getD j 0 else 0) = _
  by_cases h : j = k
  · subst h
    rfl
  · rw [if_neg h, if_neg (Ne.symm h)]
theorem mul_unit {m : List (List Int)} {w : Nat} (hw : ∀ r ∈ m, r.length = w) : mulM m (diagM (List.replicate w 1)) w = m := by
  unfold mulM
  have e := diag_tr (List.replicate w 1)
  rw [List.length_replicate] at e
  rw [e]
  conv => rhs; rw [← List.map_id m]
  apply List.map_congr_left
  intro r hr
  have hl := hw r hr
  unfold diagM
  rw [List.length_replicate, List.map_map]
  show _ = r
  conv => rhs; rw [← row_tab hl]
  apply List.map_congr_left
  intro k hk
  have hk' : k < w := List.mem_range.mp hk
  show dotI r ((List.range w).map fun j => if k = j then (List.replicate w (1 : Int)).getD k 0 else 0) = _
  rw [dotI_comm, diag_dot _ hl, List.getD_eq_getElem?_getD, List.getElem?_replicate, if_pos hk']
  show 1 * _ = _
  rw [Int.one_mul]

end
end K01
namespace K01
open PySem PySem.Spec PyProof.Rows L2 Gm
open C8 (Cal Met Mak pe_c pe_mt pe_mt0 pe_mk)
section
variable {P : Program} {w : World} {K : PySem.W.Frag} {mg : Str → Option Value} {base : Heap}
theorem ch26 (T : Top K mg) (hN : base.NoSeer) (hT : P.given.tree = none) {cdv : Value} {A : Around} {outer : List Env} {s : Shared} {H0 : Hp} {E : XK} (hr : Room 7 (A.deeper (envOfC "law" (defScope s_law) s.heap.objs.size T.a_law cdv))) :
    PSs (XL P w base T cdv A outer s H0 E) ((defBody s_law).drop 26) (tK (M1 K T.C_Grid)) := by
  refine pss_wk ((pss_one (ps_ret (pe_cmpR op_eq (pe_c (cal_law_malformed T hN hT) hr (by decide) (by rfl) (pa_cons (pe_mk (mak_Grid_N T hN hT) hr (by decide) (by rfl) (pa_cons (pe_tup (pa_cons (pe_tup (pa_cons pe_int (pa_cons pe_int pa_nil))) (pa_cons (pe_tup (pa_cons pe_int (pa_cons pe_int pa_nil))) pa_nil))) pa_nil)) (pa_cons (pe_c (cal_law_take T hN hT) hr (by decide) (by rfl) (pa_cons (pv 1) (pa_cons pe_int pa_nil))) pa_nil))) pe_int (nomark _))))) ?_
  rintro D σ H ⟨⟨a0, p, hh, ww, oo, va, vb, vc, x, y, z, kk, ma, mb, mc, y12, y13, y14, y15, y16, y17, y18, rfl, f, g⟩, q⟩
  refine ⟨by show 2 ≤ sizeLine; decide, fun t1 n1 => ?_⟩
  refine ⟨by show 2 ≤ sizeLine; decide, fun t2 n2 => ?_⟩
  refine ⟨by show 2 ≤ sizeLine; decide, fun t3 n3 => ?_⟩
  have s3 := (same_upd (o := .tup [.int 1, .int 2]) n1).trans ((same_upd (o := .tup [.int 3, .int 4]) n2).trans (same_upd (o := .tup [.ref t1, .ref t2]) n3))
  have hrows : IRows K (upd (upd (upd H t1 (.tup [.int 1, .int 2])) t2 (.tup [.int 3, .int 4])) t3 (.tup [.ref t1, .ref t2])) (.ref t3) [[1, 2], [3, 4]] := ⟨t3, _, rfl, .inr (.inl (.inl upd_same)), .cons ⟨t1, rfl, .inr (Same.seqT ((same_upd n2).trans (same_upd n3)) (.inl (.inl upd_same)))⟩ (.cons ⟨t2, rfl, .inr (Same.seqT (same_upd n3) (.inl (.inl upd_same)))⟩ .nil)⟩
  intro gx gd ngx ngd nge
  refine make_gridN ngx ngd hrows (by decide) (by decide) (w := 2) (by decide) (by decide) fun H4 s4 G4 => ⟨rfl, ?_⟩
  have f4 := Fx.same (s3.trans s4) f
  refine ⟨_, rfl, p, 4, rfl, f4.st, by decide, by decide, fun r H5 hr4 o5 st5 => ?_⟩
  refine ⟨.ref gx, r, rfl, gridP f4.st o5 G4, hr4, fun H6 s6 => ?_⟩
  refine ⟨rfl, ?_⟩
  exact q _
theorem ch25 (T : Top K mg) (hN : base.NoSeer) (hT : P.given.tree = none) {cdv : Value} {A : Around} {outer : List Env} {s : Shared} {H0 : Hp} {E : XK} (hr : Room 7 (A.deeper (envOfC "law" (defScope s_law) s.heap.objs.size T.a_law cdv))) :
    PSs (XL P w base T cdv A outer s H0 E) ((defBody s_law).drop 25) (tK (M1 K T.C_Grid)) := by
  refine pss_wk ((pss_cons (ps_if (PW.pt (pw_and (pt_cmpR op_gt (pv 2) pe_int (nomark _)) (pw_and1 (pt_cmpR ((op_ownNe (E := L2.E0) T.km_Grid T.ne_Grid T.m_Grid_eq.at_ T.m_Grid_eq.fn (ok_Grid_eq T hN hT) (hr.mono (by decide)) T.b_Grid_eq (fun _ _ _ _ h => h.elim))) (pe_mk (mak_Grid_N T hN hT) hr (by decide) (by rfl) (pa_cons (pv 5) pa_nil)) (pv 8) (nomark _)))))
      (pss_one (ps_ret pe_bl))
      pss_nil)
      (ch26 T hN hT hr))) ?_
  rintro D σ H ⟨⟨a0, p, hh, ww, oo, va, vb, vc, x, y, z, kk, ma, mb, mc, y12, y13, y14, y15, y16, y17, y18, rfl, f, g⟩, q⟩
  refine ⟨_, rfl, _, _, rfl, rfl, _, rfl, ?_⟩
  by_cases h1 : (0 : Int) < (hh : Int)
  · rw [decide_eq_true h1]
    refine iteT ?_
    refine ⟨_, rfl, ?_⟩
    intro gx gd ngx ngd nge
    have hlm := g.la
    have hlh := g.h3
    have hlw := g.w4
    refine make_gridN ngx ngd f.ta.rows (by omega) (by omega) (w := ww) (by omega) g.wa fun H4 s4 G4 => ⟨rfl, ?_⟩
    have f4 := Fx.same s4 f
    obtain ⟨⟨px, dx, tx, rfl, hox, htx⟩, hrx⟩ := id f4.gx
    obtain ⟨⟨pg, dg, tg, eg, hog, htg⟩, hrg⟩ := id G4
    cases eg
    refine ⟨_, rfl, gx, px, _, _, _, _, rfl, rfl, hog, hox, ?_⟩
    refine ⟨_, ma, ww, _, ma, rfl, G4, .inl ⟨ww, f4.gx, _, rfl, _, rfl, ?_⟩⟩
    rw [show decide (ma = ma ∧ ww = ww) = true from decide_eq_true ⟨rfl, rfl⟩]
    refine iteF ?_
    exact ⟨⟨a0, p, hh, ww, oo, va, vb, vc, _, y, z, kk, ma, mb, mc, y12, y13, y14, y15, y16, y17, y18, rfl, f4, g⟩, q⟩
  · rw [decide_eq_false h1]
    refine iteF ?_
    show (if false = true then _ else _)
    refine iteF ?_
    exact ⟨⟨a0, p, hh, ww, oo, va, vb, vc, x, y, z, kk, ma, mb, mc, y12, y13, y14, y15, y16, y17, y18, rfl, f, g⟩, q⟩

end
end K01
namespace K01
open PySem PySem.Spec PyProof.Rows L2 Gm
open C8 (Cal Met Mak pe_c pe_mt pe_mt0 pe_mk)
section
variable {P : Program} {w : World} {K : PySem.W.Frag} {mg : Str → Option Value} {base : Heap}
theorem ch24 (T : Top K mg) (hN : base.NoSeer) (hT : P.given.tree = none) {cdv : Value} {A : Around} {outer : List Env} {s : Shared} {H0 : Hp} {E : XK} (hr : Room 7 (A.deeper (envOfC "law" (defScope s_law) s.heap.objs.size T.a_law cdv))) :
    PSs (XL P w base T cdv A outer s H0 E) ((defBody s_law).drop 24) (tK (M1 K T.C_Grid)) := by
  have nfG : PySem.W.notFirst K T.C_Grid (.type "tuple") = true := by
    unfold PySem.W.notFirst
    rw [tup_not]
    simp
  refine pss_wk ((pss_cons (ps_if (PW.pt (pw_or (pt_cmpR op_ne (pe_cmpR ((op_ownCmp (op := .Eq) (E := L2.E0) (fun _ _ => rfl) T.m_Grid_eq.at_ T.m_Grid_eq.fn (ok_Grid_eq T hN hT) (hr.mono (by decide)) T.b_Grid_eq pass0)) (pv 8) (pv 9) (nomark _)) (pe_cmpR (eqDK K rfl hr) (pv 5) (pv 6) (nomark _)) (nomark _)) (pw_or (pt_cmpR (op_ownCmpT (E := L2.E0) T.m_Grid_eq.at_ T.m_Grid_eq.fn nfG (ok_Grid_eq T hN hT) (hr.mono (by decide)) T.b_Grid_eq pass0) (pv 8) (pv 5) (nomark _)) (pw_or (pt_cmpR (neDK K rfl hr) (pe_lc (own := [("p", 20)]) (g := (gName 20)) (by rfl) sc_law.nd (pi_grid T hN hT rfl rfl rfl rfl rfl s.heap.objs.size rfl hr (by decide) (pv 8)) ((by show BlkOk ["script", "state", "height", "width", "other", "a", "b", "c", "x", "y", "z", "k", "due", "told", "at", "turned", "row", "line", "both", "i", "p", "q", "j", "given"] (defScope s_law) _ _; exact blkOk_by (by decide +kernel))) (fun _ _ _ _ _ => (pg_name (i := 20) sc_law.nd rfl (by first | exact .inl rfl | exact .inr rfl))) (fun _ _ _ _ _ => pts_nil) (fun _ _ _ _ _ => (pv 20))) (pe_callTy (listK K rfl) (by rfl) T.z_list (by decide +kernel) (pa_cons (pv 5) pa_nil)) (nomark _)) (pw_or (pt_cmpR op_ne (pe_callB (call_ownLen (E := L2.E0) (T.m_Grid_len.at_) T.m_Grid_len.fn (ok_Grid_len T hN hT) (hr.mono (by decide)) T.b_Grid_len (fun _ _ _ _ h => h.elim)) (by rfl) T.z_len (by decide +kernel) (pa_cons (pv 8) pa_nil)) (pv 2) (nomark _)) (pw_or1 (pt_cmpR op_ne (pe_mt0 (met_Grid_is_square T hN hT) hr (by decide) (pv 8)) (pe_cmpR op_eq (pv 2) (pv 3) (nomark _)) (nomark _))))))))
      (pss_one (ps_ret pe_bl))
      pss_nil)
      (ch25 T hN hT hr))) ?_
  rintro D σ H ⟨⟨a0, p, hh, ww, oo, va, vb, vc, x, y, z, kk, ma, mb, mc, y12, y13, y14, y15, y16, y17, y18, rfl, f, g⟩, q⟩
  have hlm := g.la
  have hlh := g.h3
  have hlw := g.w4
  obtain ⟨⟨px, dx, tx, rfl, hox, htx⟩, hrx⟩ := id f.gx
  obtain ⟨⟨py, dy, ty, rfl, hoy, hty⟩, hry⟩ := id f.gy
  refine ⟨_, rfl, _, rfl, px, py, dx, dy, _, _, rfl, rfl, hox, hoy, ?_⟩
  refine ⟨_, ma, ww, _, mb, rfl, f.gx, .inl ⟨ww, f.gy, ?_⟩⟩
  refine ⟨_, rfl, _, rfl, eq_rows f.ta f.tb ?_⟩
  refine ⟨rfl, _, rfl, ?_⟩
  have e1 : (!decide (V.bl (decide (ma = mb ∧ ww = ww)) = V.bl (decide (ma = mb)))) = false := by
    have e0 : decide (ma = mb ∧ ww = ww) = decide (ma = mb) := by
      by_cases h : ma = mb
      · rw [decide_eq_true h, decide_eq_true ⟨h, rfl⟩]
      · rw [decide_eq_false h, decide_eq_false fun z => h z.1]
    rw [e0, decide_eq_true rfl]
    rfl
  rw [e1]
  refine iteF ?_
  -- x == a
  obtain ⟨qa, wsa, rfl, hqa, hpa⟩ := id f.ta
  refine ⟨_, rfl, _, rfl, px, qa, dx, _, wsa, rfl, rfl, hox, hqa, ?_⟩
  refine ⟨_, ma, ww, _, ma, rfl, f.gx, .inr ⟨f.ta, ?_⟩⟩
  refine ⟨_, rfl, ?_⟩
  refine iteF ?_
  -- [p for p in x] != list(a)
  refine ⟨_, rfl, px, dx, _, rfl, hox, _, ma, ww, rfl, f.gx, fun l ws it hsl hpl nit hle => ⟨it, l, rfl, upd_same, hle, ?_⟩⟩
  rw [drop_upd nit]
  intro D1 hD
  have lws := Paired.length hpl
  refine lc_all (walk_tup (xs := ws)) hD (by rw [lws]; omega) (fun H4 s4 => Same.seqT s4 hsl) (fun j v H4 => ws[j]? = some v) (fun _ _ _ _ _ _ _ h => h) ?_ gm_name ?_
  · rintro j v H5 H5' acc Ko hj s5 eD ⟨rfl, ex⟩ kc
    refine ⟨rfl, ?_⟩
    refine ⟨_, rfl, ?_⟩
    exact kc _ _ (Same.refl _) ex
  · intro H5 lst s5 eD hp
    have el := list_same hp
    subst el
    refine ⟨_, rfl, qa, wsa, rfl, .inr (Same.seqT s5 hqa), fun l2 nl2 => ?_⟩
    have s6 := s5.trans (same_upd (o := .lst wsa) nl2)
    refine ne_rlists (m := ma) (.inl (.inl (same_upd nl2 _ _ eD))) (L2.Paired.mapP hpl fun _ _ => TRow.same s6) (.inl (.inl upd_same)) (L2.Paired.mapP hpa fun _ _ => TRow.same s6) ?_
    refine ⟨_, rfl, ?_⟩
    refine iteF ?_
    have f6 := Fx.same s6 f
    have hox6 := s6 _ _ hox
    generalize upd H5 l2 (.lst wsa) = H6 at f6 hox6 ⊢
    refine ⟨_, rfl, px, dx, _, rfl, hox6, _, ma, ww, rfl, f6.gx, ma.length, rfl, by omega, ?_⟩
    refine ⟨_, rfl, rfl, _, rfl, ?_⟩
    rw [show (!decide (V.int (ma.length : Int) = V.int (hh : Int))) = false by rw [hlm, decide_eq_true rfl]; rfl]
    refine iteF ?_
    refine ⟨_, rfl, px, dx, _, rfl, hox6, m_is_square _ _, _, ma, ww, rfl, f6.gx, ?_⟩
    refine ⟨_, rfl, _, rfl, rfl, rfl, _, rfl, ?_⟩
    rw [show (!decide (V.bl (decide (ma.length = ww)) = V.bl (decide (V.int (hh : Int) = V.int (ww : Int))))) = false from ?e3]
    case e3 =>
      have e2 : decide (ma.length = ww) = decide (V.int (hh : Int) = V.int (ww : Int)) := by
        rw [hlm]
        by_cases h : hh = ww
        · subst h
          rw [decide_eq_true rfl, decide_eq_true rfl]
        · rw [decide_eq_false h, decide_eq_false]
          intro z
          have := V.int.inj z
          omega
      rw [e2, decide_eq_true rfl]
      rfl
    refine iteF ?_
    exact ⟨⟨a0, p, hh, ww, oo, _, vb, vc, _, _, z, kk, ma, mb, mc, y12, y13, y14, y15, y16, y17, y18, rfl, f6, g⟩, q⟩

end
end K01
namespace K01
open PySem PySem.Spec PyProof.Rows L2 Gm
open C8 (Cal Met Mak pe_c pe_mt pe_mt0 pe_mk)
section
variable {P : Program} {w : World} {K : PySem.W.Frag} {mg : Str → Option Value} {base : Heap}
theorem ch21 (T : Top K mg) (hN : base.NoSeer) (hT : P.given.tree = none) {cdv : Value} {A : Around} {outer : List Env} {s : Shared} {H0 : Hp} {E : XK} (hr : Room 7 (A.deeper (envOfC "law" (defScope s_law) s.heap.objs.size T.a_law cdv))) :
    PSs (XL P w base T cdv A outer s H0 E) ((defBody s_law).drop 21) (tK (M1 K T.C_Grid)) := by
  refine pss_wk ((pss_cons (ps_set (i := 18) sc_law.nd rfl (by first | exact .inl rfl | exact .inr rfl) (pe_c (cal_blocks T hN hT) hr (by decide) (by rfl) (pa_cons (pv 8) (pa_cons (pv 10) pa_nil))))
      (pss_cons (ps_if (PW.pt (pw_or (pt_cmpR op_ne (fldK K rfl (pv 18) rfl) (pe_op op_add (pv 3) (pv 4)) (nomark _)) (pw_or (pt_cmpR op_ne (pe_callB (call_ownLen (E := L2.E0) (T.m_Grid_len.at_) T.m_Grid_len.fn (ok_Grid_len T hN hT) (hr.mono (by decide)) T.b_Grid_len (fun _ _ _ _ h => h.elim)) (by rfl) T.z_len (by decide +kernel) (pa_cons (pv 18) pa_nil)) (pe_op op_add (pv 2) (pv 3)) (nomark _)) (pw_or1 (pt_cmpR (neDK K rfl hr) (pe_slice (slTK K rfl) (fldK K rfl (pv 18) rfl) po_none (po_some (pv 2))) (pe_callTy (tupK K rfl) (by rfl) T.z_tuple (by decide +kernel) (pa_cons (pe_lc (own := [("p", 20)]) (g := (gName 20)) (by rfl) sc_law.nd (piS K rfl (pv 5)) ((by show BlkOk ["script", "state", "height", "width", "other", "a", "b", "c", "x", "y", "z", "k", "due", "told", "at", "turned", "row", "line", "both", "i", "p", "q", "j", "given"] (defScope s_law) _ _; exact blkOk_by (by decide +kernel))) (fun _ _ _ _ _ => (pg_name (i := 20) sc_law.nd rfl (by first | exact .inl rfl | exact .inr rfl))) (fun _ _ _ _ _ => pts_nil) (fun _ _ _ _ _ => (pe_op (catK K rfl) (pv 20) (pe_callTy (tupK K rfl) (by rfl) T.z_tuple (by decide +kernel) (pa_cons (pe_lc (own := [("j", 22)]) (g := (gName 22)) (by rfl) sc_law.nd (pi_range1 (by rfl) T.z_range (pa_cons (pv 4) pa_nil)) ((by show BlkOk ["script", "state", "height", "width", "other", "a", "b", "c", "x", "y", "z", "k", "due", "told", "at", "turned", "row", "line", "both", "i", "p", "q", "j", "given"] (relS _ (defScope s_law)) _ _; exact blkOk_by (by decide +kernel))) (fun _ _ _ _ _ => (pg_name (i := 22) sc_law.nd rfl (by first | exact .inl rfl | exact .inr rfl))) (fun _ _ _ _ _ => pts_nil) (fun _ _ _ _ _ => pe_int)) pa_nil))))) pa_nil)) (nomark _))))))
      (pss_one (ps_ret pe_bl))
      pss_nil)
      (pss_cons (ps_if (pt_cmpR (neDK K rfl hr) (pe_slice (slTK K rfl) (fldK K rfl (pv 18) rfl) (po_some (pv 2)) po_none) (pe_callTy (tupK K rfl) (by rfl) T.z_tuple (by decide +kernel) (pa_cons (pe_lc (own := [("p", 20)]) (g := (gName 20)) (by rfl) sc_law.nd (piS K rfl (pv 7)) ((by show BlkOk ["script", "state", "height", "width", "other", "a", "b", "c", "x", "y", "z", "k", "due", "told", "at", "turned", "row", "line", "both", "i", "p", "q", "j", "given"] (defScope s_law) _ _; exact blkOk_by (by decide +kernel))) (fun _ _ _ _ _ => (pg_name (i := 20) sc_law.nd rfl (by first | exact .inl rfl | exact .inr rfl))) (fun _ _ _ _ _ => pts_nil) (fun _ _ _ _ _ => (pe_op (catK K rfl) (pe_callTy (tupK K rfl) (by rfl) T.z_tuple (by decide +kernel) (pa_cons (pe_lc (own := [("j", 22)]) (g := (gName 22)) (by rfl) sc_law.nd (pi_range1 (by rfl) T.z_range (pa_cons (pv 3) pa_nil)) ((by show BlkOk ["script", "state", "height", "width", "other", "a", "b", "c", "x", "y", "z", "k", "due", "told", "at", "turned", "row", "line", "both", "i", "p", "q", "j", "given"] (relS _ (defScope s_law)) _ _; exact blkOk_by (by decide +kernel))) (fun _ _ _ _ _ => (pg_name (i := 22) sc_law.nd rfl (by first | exact .inl rfl | exact .inr rfl))) (fun _ _ _ _ _ => pts_nil) (fun _ _ _ _ _ => pe_int)) pa_nil)) (pv 20)))) pa_nil)) (nomark _))
      (pss_one (ps_ret pe_bl))
      pss_nil)
      (ch24 T hN hT hr))))) ?_
  rintro D σ H ⟨⟨a0, p, hh, ww, oo, va, vb, vc, x, y, z, kk, ma, mb, mc, y12, y13, y14, y15, y16, y17, y18, rfl, f, g⟩, q⟩
  have hlm := g.la
  have hlc := g.lc
  have hlh := g.h3
  have hlw := g.w4
  have hlo := g.o3
  have lhi : (highM ma oo).length = hh := by unfold highM; rw [List.length_map, hlm]
  have llo : (lowM mc ww).length = ww := by unfold lowM; rw [List.length_map, hlc]
  -- both
  refine ⟨_, rfl, _, rfl, _, ma, ww, _, mc, oo, rfl, f.gx, f.gz, by omega, by omega, fun gb H1 s1 Gb => ?_⟩
  have f1 := Fx.same s1 f
  obtain ⟨⟨pb, db, tb, rfl, hob, htb⟩, hrb⟩ := id Gb
  obtain ⟨qb, wsb, rfl, hqb, hpb⟩ := id htb
  -- both.width != width + other
  refine ⟨_, rfl, pb, _, db, _, _, rfl, hob, T.cl_Grid, T.n_width, flds_width _ _, ?_⟩
  refine ⟨_, rfl, _, rfl, _, _, rfl, rfl, rfl, _, rfl, ?_⟩
  rw [show (!decide (V.int ((ww + oo : Nat) : Int) = V.int ((ww : Int) + (oo : Int)))) = false by rw [decide_eq_true (congrArg V.int (by omega))]; rfl]
  refine iteF ?_
  refine ⟨_, rfl, pb, db, _, rfl, hob, _, _, _, rfl, Gb, (highM ma oo ++ lowM mc ww).length, rfl, by rw [List.length_append]; omega, ?_⟩
  refine ⟨_, rfl, _, rfl, _, _, rfl, rfl, rfl, _, rfl, ?_⟩
  rw [show (!decide (V.int ((highM ma oo ++ lowM mc ww).length : Int) = V.int ((hh : Int) + (ww : Int)))) = false by rw [List.length_append, lhi, llo, decide_eq_true (congrArg V.int (by omega))]; rfl]
  refine iteF ?_
  -- both.rows[:height]
  refine ⟨_, rfl, pb, _, db, _, _, rfl, hob, T.cl_Grid, T.n_rows, flds_rows _ _, _, rfl, (hh : Int), rfl, ?_⟩
  refine (show rSlA K (.ref qb) none (some (hh : Int)) H1 _ from ?_)
  refine slA_take hqb hh fun p1 H2 s2 t2 => ?_
  have hup : TRows K H2 (.ref p1) (highM ma oo) := by
    have h := paired_take hh (L2.Paired.mapP hpb fun _ _ => TRow.same s2)
    rw [List.take_left' lhi] at h
    exact ⟨p1, _, rfl, t2, h⟩
  have f2 := Fx.same s2 f1
  obtain ⟨qa, wsa, ea, hqa, hpa⟩ := id f2.ta
  have lwa := Paired.length hpa
  refine ⟨_, rfl, qa, wsa, ea, .inr hqa, fun J G0 W hG D1 hD => ?_⟩
  refine lc_all W hD (by omega) (fun H4 s4 => hG H4 fun b _ o => s4 b o) (fun i v H4 => ∃ r, (highM ma oo)[i]? = some r ∧ TRow K H4 v r) (fun i v H4 H5 acc e o ⟨r, er, h⟩ => ⟨r, er, TRow.off e o h⟩) ?_ gm_name ?_
  · rintro i zz H4 H4' acc Ko hi s4 eD ⟨rfl, ex⟩ kc
    obtain ⟨r, er, c, rfl, hc⟩ := Paired.getR hpa ex
    have hrl := g.wa r (List.mem_of_getElem? er)
    refine ⟨rfl, ?_⟩
    refine ⟨_, rfl, ?_⟩
    refine rd_zeros (n := oo) rfl (fun _ => rfl) (by omega) fun pz H5 s5 tz => ?_
    refine catA (Same.seqT (s4.trans s5) hc) tz (by rw [List.length_map, List.length_map, List.length_replicate]; omega) fun p3 H6 s6 t6 => ?_
    refine kc _ _ (s5.trans s6) ⟨r ++ List.replicate oo 0, ?_, p3, rfl, ?_⟩
    · unfold highM
      rw [List.getElem?_map, er]
      rfl
    · rw [List.map_append]
      exact t6
  · intro H4 l s4 eD hpl
    refine ⟨D1, l, rfl, .inl ⟨.inl (.inl eD), fun t nt => ?_⟩⟩
    have sV := same_upd (o := .tup l) nt
    have hdue : TRows K (upd H4 t (.tup l)) (.ref t) (highM ma oo) := ⟨t, l, rfl, .inl (.inl upd_same), L2.Paired.mapP (paired_at (m := highM ma oo) (by omega) hpl) fun _ _ => TRow.same sV⟩
    refine ne_rows (TRows.same (s4.trans sV) hup) hdue rfl ⟨_, rfl, ?_⟩
    refine iteF ?_
    have f3 := Fx.same (s4.trans sV) f2
    have hob3 := (s4.trans sV) _ _ (s2 _ _ hob)
    have hqb3 := Same.seqT (s2.trans (s4.trans sV)) hqb
    have hpb3 := L2.Paired.mapP hpb fun _ _ => TRow.same (s2.trans (s4.trans sV))
    generalize upd H4 t (.tup l) = H3 at f3 hob3 hqb3 hpb3 ⊢
    -- both.rows[height:]
    refine ⟨_, rfl, pb, _, db, _, _, rfl, hob3, T.cl_Grid, T.n_rows, flds_rows _ _, _, rfl, (hh : Int), rfl, ?_⟩
    dsimp only [tNoPart]
    refine (show rSlA K (.ref qb) (some (hh : Int)) none H3 _ from ?_)
    refine slA_drop hqb3 hh fun p1 H2 s2 t2 => ?_
    have hup : TRows K H2 (.ref p1) (lowM mc ww) := by
      have h := paired_drop hh (L2.Paired.mapP hpb3 fun _ _ => TRow.same s2)
      rw [List.drop_left' lhi] at h
      exact ⟨p1, _, rfl, t2, h⟩
    have f2 := Fx.same s2 f3
    obtain ⟨qc, wsc, ec, hqc, hpc⟩ := id f2.tc
    have lwc := Paired.length hpc
    refine ⟨_, rfl, qc, wsc, ec, .inr hqc, fun J G0 W hG D1 hD => ?_⟩
    refine lc_all W hD (by omega) (fun H4 s4 => hG H4 fun b _ o => s4 b o) (fun i v H4 => ∃ r, (lowM mc ww)[i]? = some r ∧ TRow K H4 v r) (fun i v H4 H5 acc e o ⟨r, er, h⟩ => ⟨r, er, TRow.off e o h⟩) ?_ gm_name ?_
    · rintro i zz H4 H4' acc Ko hi s4 eD ⟨rfl, ex⟩ kc
      obtain ⟨r, er, c, rfl, hc⟩ := Paired.getR hpc ex
      have hrl := g.wc r (List.mem_of_getElem? er)
      refine ⟨rfl, ?_⟩
      refine rd_zeros (n := ww) rfl (fun _ => rfl) (by omega) fun pz H5 s5 tz => ?_
      refine ⟨_, rfl, ?_⟩
      refine catA tz (Same.seqT (s4.trans s5) hc) (by rw [List.length_map, List.length_map, List.length_replicate]; omega) fun p3 H6 s6 t6 => ?_
      refine kc _ _ (s5.trans s6) ⟨List.replicate ww 0 ++ r, ?_, p3, rfl, ?_⟩
      · unfold lowM
        rw [List.getElem?_map, er]
        rfl
      · rw [List.map_append]
        exact t6
    · intro H4 l s4 eD hpl
      refine ⟨D1, l, rfl, .inl ⟨.inl (.inl eD), fun t nt => ?_⟩⟩
      have sV := same_upd (o := .tup l) nt
      have hdue : TRows K (upd H4 t (.tup l)) (.ref t) (lowM mc ww) := ⟨t, l, rfl, .inl (.inl upd_same), L2.Paired.mapP (paired_at (m := lowM mc ww) (by omega) hpl) fun _ _ => TRow.same sV⟩
      refine ne_rows (TRows.same (s4.trans sV) hup) hdue rfl ⟨_, rfl, ?_⟩
      refine iteF ?_
      exact ⟨⟨a0, p, hh, ww, oo, _, vb, vc, _, _, z, kk, ma, mb, mc, y12, y13, y14, y15, y16, y17, _, rfl, Fx.same (s4.trans sV) f2, g⟩, q⟩

end
end K01
namespace K01
open PySem PySem.Spec PyProof.Rows L2 Gm
open C8 (Cal Met Mak pe_c pe_mt pe_mt0 pe_mk)
section
variable {P : Program} {w : World} {K : PySem.W.Frag} {mg : Str → Option Value} {base : Heap}
theorem ne_grid {K : PySem.W.Frag} {C : Addr} {H : Hp} {u v : V} {m : List (List Int)} {w : Nat} {Q : VK} (G1 : IsGrid K C H u m w) (G2 : IsGrid K C H v m w) (q : Q (.bl false) H) : rOwnNe C (sp_Grid_eq K C) L2.E0 u v H Q := by
  obtain ⟨⟨p1, d1, t1, rfl, h1, _⟩, _⟩ := id G1
  obtain ⟨⟨p2, d2, t2, rfl, h2, _⟩, _⟩ := id G2
  refine ⟨p1, p2, d1, d2, _, _, rfl, rfl, h1, h2, _, m, w, _, m, rfl, G1, .inl ⟨w, G2, _, rfl, ?_⟩⟩
  rw [show decide (m = m ∧ w = w) = true from decide_eq_true ⟨rfl, rfl⟩]
  exact q
theorem mul_grid {K : PySem.W.Frag} {C : Addr} {H : Hp} {u v : V} {m1 m2 : List (List Int)} {w1 w2 B1 B2 : Nat} {Q : VK} (G1 : IsGrid K C H u m1 w1) (G2 : IsGrid K C H v m2 w2) (e : w1 = m2.length) (l1 : m1.length ≤ 1000) (l2 : m2.length ≤ 1000) (l3 : w2 ≤ 1000) (b1 : ∀ r ∈ m1, Bits B1 r) (b2 : ∀ r ∈ m2, Bits B2 r) (hB : B1 + B2 ≤ 134217728)
    (q : ∀ g H', Same H H' → IsGrid K C H' g (mulM m1 m2 w2) w2 → Q g H') : rOwnBin C (sp_Grid_mul K C) L2.E0 u v H Q := by
  obtain ⟨⟨p1, d1, t1, rfl, h1, _⟩, _⟩ := id G1
  obtain ⟨⟨p2, d2, t2, rfl, h2, _⟩, _⟩ := id G2
  exact ⟨p1, p2, d1, d2, _, _, rfl, rfl, h1, h2, _, m1, w1, _, m2, w2, B1, B2, rfl, G1, G2, e, l1, l2, l3, b1, b2, hB, q⟩
theorem diagM_bits {B : Nat} {ns : List Int} (h : Bits B ns) : ∀ r ∈ diagM ns, Bits B r := fun r hr x hx => by
  unfold diagM at hr
  obtain ⟨i, hi, rfl⟩ := List.mem_map.mp hr
  obtain ⟨j, hj, rfl⟩ := List.mem_map.mp hx
  by_cases e : i = j
  · rw [if_pos e]
    have hi' := List.mem_range.mp hi
    refine h _ ?_
    rw [List.getD_eq_getElem?_getD, List.getElem?_eq_getElem hi']
    exact List.getElem_mem _
  · rw [if_neg e]
    exact Nat.two_pow_pos _
theorem ones_bits (n : Nat) : Bits 1 (List.replicate n 1) := fun x hx => by
  rw [(List.mem_replicate.mp hx).2]
  decide
theorem rowsBy_len (ll : List Int) (m : List (List Int)) : (rowsBy ll m).length = ll.length := by
  unfold rowsBy
  rw [List.length_map, List.length_range]
theorem rowsBy_get {ll : List Int} {m : List (List Int)} {i : Nat} (h : i < ll.length) : (rowsBy ll m).getD i [] = (m.getD i []).map fun z => ll.getD i 0 * z := by
  unfold rowsBy
  rw [List.getD_eq_getElem?_getD, List.getElem?_map, List.getElem?_range h]
  rfl
theorem rowsBy_row {ll : List Int} {m : List (List Int)} {w : Nat} (hl : m.length = ll.length) (h : ∀ r ∈ m, r.length = w) : ∀ r ∈ rowsBy ll m, r.length = w := fun r hr => by
  unfold rowsBy at hr
  obtain ⟨i, hi, rfl⟩ := List.mem_map.mp hr
  have hi' := List.mem_range.mp hi
  rw [List.length_map]
  refine h _ ?_
  rw [List.getD_eq_getElem?_getD, List.getElem?_eq_getElem (by omega)]
  exact List.getElem_mem _
theorem ch20 (T : Top K mg) (hN : base.NoSeer) (hT : P.given.tree = none) {cdv : Value} {A : Around} {outer : List Env} {s : Shared} {H0 : Hp} {E : XK} (hr : Room 7 (A.deeper (envOfC "law" (defScope s_law) s.heap.objs.size T.a_law cdv))) :
    PSs (XL P w base T cdv A outer s H0 E) ((defBody s_law).drop 20) (tK (M2 K T.C_Grid)) := by
  refine pss_wk ((pss_cons (ps_if (PW.pt (pw_or (pt_cmpR ((op_ownNe (E := L2.E0) T.km_Grid T.ne_Grid T.m_Grid_eq.at_ T.m_Grid_eq.fn (ok_Grid_eq T hN hT) (hr.mono (by decide)) T.b_Grid_eq (fun _ _ _ _ h => h.elim))) (pe_op ((op_ownBin (op := .Mult) (E := L2.E0) T.sf_Grid T.m_Grid_mul.at_ T.m_Grid_mul.fn (ok_Grid_mul T hN hT) (hr.mono (by decide)) T.b_Grid_mul pass0)) (pe_c (cal_unit T hN hT) hr (by decide) (by rfl) (pa_cons (pv 2) pa_nil)) (pv 8)) (pv 8) (nomark _)) (pw_or (pt_cmpR ((op_ownNe (E := L2.E0) T.km_Grid T.ne_Grid T.m_Grid_eq.at_ T.m_Grid_eq.fn (ok_Grid_eq T hN hT) (hr.mono (by decide)) T.b_Grid_eq (fun _ _ _ _ h => h.elim))) (pe_op ((op_ownBin (op := .Mult) (E := L2.E0) T.sf_Grid T.m_Grid_mul.at_ T.m_Grid_mul.fn (ok_Grid_mul T hN hT) (hr.mono (by decide)) T.b_Grid_mul pass0)) (pv 8) (pe_c (cal_unit T hN hT) hr (by decide) (by rfl) (pa_cons (pv 3) pa_nil))) (pv 8) (nomark _)) (pw_or1 (pt_cmpR ((op_ownNe (E := L2.E0) T.km_Grid T.ne_Grid T.m_Grid_eq.at_ T.m_Grid_eq.fn (ok_Grid_eq T hN hT) (hr.mono (by decide)) T.b_Grid_eq (fun _ _ _ _ h => h.elim))) (pe_op ((op_ownBin (op := .Mult) (E := L2.E0) T.sf_Grid T.m_Grid_mul.at_ T.m_Grid_mul.fn (ok_Grid_mul T hN hT) (hr.mono (by decide)) T.b_Grid_mul pass0)) (pe_c (cal_diagonal T hN hT) hr (by decide) (by rfl) (pa_cons (pv 17) pa_nil)) (pv 8)) (pe_mk (mak_Grid T hN hT) hr (by decide) (by rfl) (pa_cons (pe_lc (own := [("i", 19)]) (g := (gName 19)) (by rfl) sc_law.nd (pi_range1 (by rfl) T.z_range (pa_cons (pv 2) pa_nil)) ((by show BlkOk ["script", "state", "height", "width", "other", "a", "b", "c", "x", "y", "z", "k", "due", "told", "at", "turned", "row", "line", "both", "i", "p", "q", "j", "given"] (defScope s_law) _ _; exact blkOk_by (by decide +kernel))) (fun _ _ _ _ _ => (pg_name (i := 19) sc_law.nd rfl (by first | exact .inl rfl | exact .inr rfl))) (fun _ _ _ _ _ => pts_nil) (fun _ _ _ _ _ => (pe_lc (own := [("p", 20)]) (g := (gName 20)) (by rfl) sc_law.nd (piS K rfl (pe_ix (ixT K rfl) (pv 5) (pv 19) (fun _ _ => rfl))) ((by show BlkOk ["script", "state", "height", "width", "other", "a", "b", "c", "x", "y", "z", "k", "due", "told", "at", "turned", "row", "line", "both", "i", "p", "q", "j", "given"] (relS _ (defScope s_law)) _ _; exact blkOk_by (by decide +kernel))) (fun _ _ _ _ _ => (pg_name (i := 20) sc_law.nd rfl (by first | exact .inl rfl | exact .inr rfl))) (fun _ _ _ _ _ => pts_nil) (fun _ _ _ _ _ => (pe_op op_mulX (pe_ix (ixT K rfl) (pv 17) (pv 19) (fun _ _ => rfl)) (pv 20)))))) (pa_cons (pv 3) pa_nil))) (nomark _))))))
      (pss_one (ps_ret pe_bl))
      pss_nil)
      (ch21 T hN hT hr))) ?_
  rintro D σ H ⟨⟨a0, p, hh, ww, oo, va, vb, vc, x, y, z, kk, ma, mb, mc, y12, y13, y14, y15, vr, vl, y18, rr, ll, rfl, f, g, hvr, hvl, lr, lll, br, bl⟩, q⟩
  have hlm := g.la
  have hlh := g.h3
  have hlw := g.w4
  have lu : ∀ n : Nat, (diagM (List.replicate n 1)).length = n := fun n => by rw [diagM_len, List.length_replicate]
  -- unit(height) * x != x
  refine ⟨_, rfl, hh, rfl, by omega, fun gu H1 s1 Gu => ?_⟩
  have f1 := Fx.same s1 f
  refine ⟨_, rfl, mul_grid Gu f1.gx hlm.symm (by rw [lu]; omega) (by omega) (by omega) (diagM_bits (ones_bits _)) g.ba (by decide) fun g2 H2 s2 G2 => ?_⟩
  rw [unit_mul hlm g.wa] at G2
  have f2 := Fx.same s2 f1
  refine ⟨_, rfl, ne_grid G2 f2.gx ⟨_, rfl, ?_⟩⟩
  refine iteF ?_
  -- x * unit(width) != x
  refine ⟨_, rfl, _, rfl, ww, rfl, by omega, fun gw H3 s3 Gw => ?_⟩
  have f3 := Fx.same s3 f2
  refine mul_grid f3.gx Gw (by rw [lu]) (by omega) (by rw [lu]; omega) (by omega) g.ba (diagM_bits (ones_bits _)) (by decide) fun g4 H4 s4 G4 => ?_
  rw [mul_unit g.wa] at G4
  have f4 := Fx.same s4 f3
  refine ⟨_, rfl, ne_grid G4 f4.gx ⟨_, rfl, ?_⟩⟩
  refine iteF ?_
  have s14 := s1.trans (s2.trans (s3.trans s4))
  have hvl4 := TRow.same s14 hvl
  -- diagonal(line) * x
  refine ⟨_, rfl, _, ll, rfl, hvl4.row, by omega, fun gd H5 s5 Gd => ?_⟩
  have f5 := Fx.same s5 f4
  refine ⟨_, rfl, mul_grid Gd f5.gx (by omega) (by rw [diagM_len]; omega) (by omega) (by omega) (diagM_bits bl) g.ba (by decide) fun g6 H6 s6 G6 => ?_⟩
  rw [mul_diag (by omega) g.wa] at G6
  have f6 := Fx.same s6 f5
  have hvl6 := TRow.same (s5.trans s6) hvl4
  obtain ⟨ql, rfl, hql⟩ := id hvl6
  obtain ⟨qa, wsa, ea, hqa, hpa⟩ := id f6.ta
  have lwa := Paired.length hpa
  have lrb := rowsBy_len ll ma
  refine ⟨_, rfl, (hh : Int), rfl, by omega, by omega, fun D1 hD => ?_⟩
  refine lc_all walk_range hD (by omega) (fun _ _ => trivial) (fun i v H5 => ∃ p, v = V.ref p ∧ p ≠ D1 ∧ H5 p = some (.lst (((rowsBy ll ma).getD i []).map V.int))) lists_mono ?_ gm_name ?_
  · rintro i zz H7 H7' acc Ko hi s7 eD ⟨rfl, rfl⟩ kc
    have hi' : i < hh := by omega
    refine ⟨rfl, ?_⟩
    obtain ⟨v1, ev1⟩ : ∃ v, wsa[i]? = some v := ⟨wsa[i]'(by omega), List.getElem?_eq_getElem (by omega)⟩
    obtain ⟨r1, er1, b1, rfl, hb1⟩ := Paired.getR hpa ev1
    have h1 := g.wa r1 (List.mem_of_getElem? er1)
    have eg : (rowsBy ll ma).getD i [] = r1.map fun z => ll.getD i 0 * z := by
      rw [rowsBy_get (by omega), List.getD_eq_getElem?_getD (l := ma), er1]
      rfl
    refine ⟨_, rfl, _, rfl, qa, wsa, _, _, ea, rfl, Same.seqT s7 hqa, at_of (j := i) (by omega) ev1, ?_⟩
    have hb1' := Same.seqT s7 hb1
    refine ⟨b1, _, rfl, .inr hb1', fun J2 G2' W2 hG2 D2 hD2 => ?_⟩
    have hbr := g.ba r1 (List.mem_of_getElem? er1)
    refine lc_all W2 hD2 (by rw [List.length_map]; omega) (fun H8 s8 => hG2 H8 fun b _ o => s8 b o) (fun j v _ => ∃ z, ((rowsBy ll ma).getD i [])[j]? = some z ∧ v = .int z) (fun _ _ _ _ _ _ _ h => h) ?_ gm_name ?_
    · rintro j y2 H8 H8' acc2 Ko2 hj s8 eD2 ⟨rfl, ex⟩ k2
      obtain ⟨z1, ez1, rfl⟩ := ints_get ex
      refine ⟨rfl, ?_⟩
      have el : ll[i]? = some (ll.getD i 0) := by
        rw [List.getD_eq_getElem?_getD, List.getElem?_eq_getElem (by omega)]
        rfl
      refine ⟨_, rfl, _, rfl, ql, _, _, _, rfl, rfl, Same.seqT (s7.trans s8) hql, at_of (j := i) (by omega) (ints_at el), _, rfl, ?_⟩
      refine ⟨_, _, rfl, rfl, mulx_ok (bl.at el) (hbr.at ez1) (by decide), ?_⟩
      refine k2 _ _ (Same.refl _) ⟨_, ?_, rfl⟩
      rw [eg, List.getElem?_map, ez1]
      rfl
    · intro H8 l s8 eD2 hpl
      have el := ints_list (by rw [eg, List.length_map, List.length_map]) hpl
      refine kc _ _ s8 ⟨D2, rfl, ?_, by rw [← el]; exact eD2⟩
      rintro rfl
      rw [eD] at hD2
      cases hD2
  · intro H7 l s7 eD hpl
    have hrows := lists_rows (K := K) (m := rowsBy ll ma) (by omega) eD hpl
    refine ⟨_, rfl, ?_⟩
    intro gx gd ngx ngd nge
    refine make_grid2 (C := T.C_Grid) (w := ww) ngx ngd hrows (by omega) (by omega) (rowsBy_row (by omega) g.wa) fun H8 s8 G8 => ⟨rfl, ?_⟩
    refine ne_grid (IsGrid.same (s7.trans s8) G6) G8 ⟨_, rfl, ?_⟩
    refine iteF ?_
    exact ⟨⟨a0, p, hh, ww, oo, va, vb, vc, x, y, z, kk, ma, mb, mc, y12, y13, y14, y15, _, _, y18, rfl, Fx.same (s7.trans s8) f6, g⟩, q⟩

end
end K01
namespace K01
open PySem PySem.Spec PyProof.Rows L2 Gm
open C8 (Cal Met Mak pe_c pe_mt pe_mt0 pe_mk)
section
variable {P : Program} {w : World} {K : PySem.W.Frag} {mg : Str → Option Value} {base : Heap}
theorem timesM_len (m : List (List Int)) (r : List Int) : (timesM m r).length = m.length := by
  unfold timesM
  rw [List.length_map]
theorem timesM_get {m : List (List Int)} {r o : List Int} {i : Nat} (h : m[i]? = some o) : (timesM m r)[i]? = some (dotI o r) := by
  unfold timesM
  rw [List.getElem?_map, h]
  rfl
theorem ch18 (T : Top K mg) (hN : base.NoSeer) (hT : P.given.tree = none) {cdv : Value} {A : Around} {outer : List Env} {s : Shared} {H0 : Hp} {E : XK} (hr : Room 7 (A.deeper (envOfC "law" (defScope s_law) s.heap.objs.size T.a_law cdv))) :
    PSs (XL P w base T cdv A outer s H0 E) ((defBody s_law).drop 18) (tK (M2 K T.C_Grid)) := by
  refine pss_wk ((pss_cons (ps_if (pt_cmpR (neDK K rfl hr) (pe_mt (met_Grid_times T hN hT) hr (by decide) (pv 8) (pa_cons (pv 16) pa_nil)) (pe_callTy (tupK K rfl) (by rfl) T.z_tuple (by decide +kernel) (pa_cons (pe_lc (own := [("given", 23)]) (g := (gName 23)) (by rfl) sc_law.nd (piS K rfl (pv 5)) ((by show BlkOk ["script", "state", "height", "width", "other", "a", "b", "c", "x", "y", "z", "k", "due", "told", "at", "turned", "row", "line", "both", "i", "p", "q", "j", "given"] (defScope s_law) _ _; exact blkOk_by (by decide +kernel))) (fun _ _ _ _ _ => (pg_name (i := 23) sc_law.nd rfl (by first | exact .inl rfl | exact .inr rfl))) (fun _ _ _ _ _ => pts_nil) (fun _ _ _ _ _ => (pe_callB (sumK K rfl rfl) (by rfl) T.z_sum (by decide +kernel) (pa_cons (pe_lc (own := [("p", 20), ("q", 21)]) (g := (gTup K 2 (gCons (gName 20) (gCons (gName 21) gNil)))) (by rfl) sc_law.nd (piZipT K rfl (by rfl) T.z_zip (pa_cons (pv 23) (pa_cons (pv 16) pa_nil)) (fun _ _ _ _ f h => let ⟨v, e, u, e2, h⟩ := h; ⟨v, e, u, e2, f _ _ h⟩)) ((by show BlkOk ["script", "state", "height", "width", "other", "a", "b", "c", "x", "y", "z", "k", "due", "told", "at", "turned", "row", "line", "both", "i", "p", "q", "j", "given"] (relS _ (defScope s_law)) _ _; exact blkOk_by (by decide +kernel))) (fun _ _ _ _ _ => (pg_tup rfl (pgs_cons (pg_name (i := 20) sc_law.nd rfl (by first | exact .inl rfl | exact .inr rfl)) (pgs_cons (pg_name (i := 21) sc_law.nd rfl (by first | exact .inl rfl | exact .inr rfl)) pgs_nil)))) (fun _ _ _ _ _ => pts_nil) (fun _ _ _ _ _ => (pe_op op_mulX (pv 20) (pv 21)))) pa_nil)))) pa_nil)) (nomark _))
      (pss_one (ps_ret pe_bl))
      pss_nil)
      (pss_cons (ps_if (pt_cmpR (neDK K rfl hr) (pe_mt (met_Grid_before T hN hT) hr (by decide) (pv 8) (pa_cons (pv 17) pa_nil)) (pe_callTy (tupK K rfl) (by rfl) T.z_tuple (by decide +kernel) (pa_cons (pe_lc (own := [("j", 22)]) (g := (gName 22)) (by rfl) sc_law.nd (pi_range1 (by rfl) T.z_range (pa_cons (pv 3) pa_nil)) ((by show BlkOk ["script", "state", "height", "width", "other", "a", "b", "c", "x", "y", "z", "k", "due", "told", "at", "turned", "row", "line", "both", "i", "p", "q", "j", "given"] (defScope s_law) _ _; exact blkOk_by (by decide +kernel))) (fun _ _ _ _ _ => (pg_name (i := 22) sc_law.nd rfl (by first | exact .inl rfl | exact .inr rfl))) (fun _ _ _ _ _ => pts_nil) (fun _ _ _ _ _ => (pe_callB (sumK K rfl rfl) (by rfl) T.z_sum (by decide +kernel) (pa_cons (pe_lc (own := [("i", 19)]) (g := (gName 19)) (by rfl) sc_law.nd (pi_range1 (by rfl) T.z_range (pa_cons (pv 2) pa_nil)) ((by show BlkOk ["script", "state", "height", "width", "other", "a", "b", "c", "x", "y", "z", "k", "due", "told", "at", "turned", "row", "line", "both", "i", "p", "q", "j", "given"] (relS _ (defScope s_law)) _ _; exact blkOk_by (by decide +kernel))) (fun _ _ _ _ _ => (pg_name (i := 19) sc_law.nd rfl (by first | exact .inl rfl | exact .inr rfl))) (fun _ _ _ _ _ => pts_nil) (fun _ _ _ _ _ => (pe_op op_mulX (pe_ix (ixT K rfl) (pv 17) (pv 19) (fun _ _ => rfl)) (pe_ix (ixT K rfl) (pe_ix (ixT K rfl) (pv 5) (pv 19) (fun _ _ => rfl)) (pv 22) (fun _ _ => rfl))))) pa_nil)))) pa_nil)) (nomark _))
      (pss_one (ps_ret pe_bl))
      pss_nil)
      (ch20 T hN hT hr)))) ?_
  rintro D σ H ⟨⟨a0, p, hh, ww, oo, va, vb, vc, x, y, z, kk, ma, mb, mc, y12, y13, y14, y15, vr, vl, y18, rr, ll, rfl, f, g, hvr, hvl, lr, lll, br, bl⟩, q⟩
  have hlm := g.la
  have hlh := g.h3
  have hlw := g.w4
  obtain ⟨⟨px, dx, tx, rfl, hox, htx⟩, hrx⟩ := id f.gx
  -- x.times(row)
  refine ⟨_, rfl, px, dx, _, rfl, hox, m_times _ _, _, rfl, _, ma, ww, vr, rr, 5, 3, rfl, f.gx, hvr, lr, by omega, by omega, g.ba, br, by decide, fun v1 H1 s1 h1 => ?_⟩
  have f1 := Fx.same s1 f
  have hvr1 := TRow.same s1 hvr
  obtain ⟨qr, rfl, hqr⟩ := id hvr1
  obtain ⟨qa, wsa, ea, hqa, hpa⟩ := id f1.ta
  have lwa := Paired.length hpa
  refine ⟨_, rfl, qa, wsa, ea, .inr hqa, fun J G0 W hG D1 hD => ?_⟩
  refine lc_all W hD (by omega) (fun H4 s4 => hG H4 fun b _ o => s4 b o) (fun j v _ => ∃ z, (timesM ma rr)[j]? = some z ∧ v = .int z) (fun _ _ _ _ _ _ _ h => h) ?_ gm_name ?_
  · rintro i zz H4 H4' acc Ko hi s4 eD ⟨rfl, ex⟩ kc
    obtain ⟨r, er, c, rfl, hc⟩ := Paired.getR hpa ex
    have hrl := g.wa r (List.mem_of_getElem? er)
    have hrb := g.ba r (List.mem_of_getElem? er)
    have hc4 := Same.seqT s4 hc
    have hq4 := Same.seqT s4 hqr
    refine ⟨rfl, ?_⟩
    refine ⟨_, rfl, _, rfl, c, qr, _, _, rfl, hc4, hq4, fun D2 hD2 => ?_⟩
    have W2 : Walk (RZ.ItzT K c qr) ww (fun H => SqT K H c (r.map V.int) ∧ SqT K H qr (rr.map V.int)) (YPair (fun i => (r.map V.int)[i]?) (fun i => (rr.map V.int)[i]?)) := walk_zipT (by rw [List.length_map, List.length_map, hrl, lr, Nat.min_self])
    refine lc_all W2 hD2 (by omega) (fun H5 s5 => ⟨Same.seqT s5 hc4, Same.seqT s5 hq4⟩) (fun j v _ => ∃ z, (List.zipWith (· * ·) r rr)[j]? = some z ∧ v = .int z) (fun _ _ _ _ _ _ _ h => h) ?_ gm_pair ?_
    · rintro j y2 H5 H5' acc2 Ko2 hj s5 eD2 ⟨U, y1, y2, rfl, nU, rfl, f1, f2⟩ k2
      obtain ⟨z1, ez1, rfl⟩ := ints_get f1
      obtain ⟨z2, ez2, rfl⟩ := ints_get f2
      refine g_pair nU ⟨rfl, ?_⟩
      refine ⟨_, rfl, _, rfl, z1, z2, rfl, rfl, mulx_ok (hrb.at ez1) (br.at ez2) (by decide), ?_⟩
      refine k2 _ _ (same_upd nU) ⟨z1 * z2, ?_, rfl⟩
      rw [List.getElem?_zipWith, ez1, ez2]
    · intro H5 l s5 eD2 hpl
      have el := ints_list (by rw [List.length_zipWith, hrl, lr, Nat.min_self]) hpl
      refine ⟨D2, List.zipWith (· * ·) r rr, rfl, .inl (.inl (by rw [← el]; exact eD2)), ?_⟩
      exact kc _ _ s5 ⟨_, timesM_get er, rfl⟩
  · intro H4 l s4 eD hpl
    have el := ints_list (by rw [timesM_len]; omega) hpl
    subst el
    refine ⟨D1, _, rfl, .inl ⟨.inl (.inl eD), fun t nt => ?_⟩⟩
    have s5 := s4.trans (same_upd (o := .tup ((timesM ma rr).map V.int)) nt)
    refine ne_row (TRow.same s5 h1) ⟨t, rfl, .inl (.inl upd_same)⟩ rfl ⟨_, rfl, ?_⟩
    refine iteF ?_
    have s15 := s1.trans s5
    have f5 := Fx.same s5 f1
    have hvl5 := TRow.same s15 hvl
    have hvr5 := TRow.same s15 hvr
    have hox5 := s15 _ _ hox
    generalize upd H4 t (.tup ((timesM ma rr).map V.int)) = H6 at f5 hvl5 hvr5 hox5 ⊢
    -- x.before(line)
    refine ⟨_, rfl, px, dx, _, rfl, hox5, m_before _ _, _, rfl, _, ma, ww, vl, ll, 5, 3, rfl, f5.gx, hvl5, by omega, by omega, by omega, g.ba, bl, by decide, fun v1 H1 s1 h1 => ?_⟩
    have f1 := Fx.same s1 f5
    have hvl1 := TRow.same s1 hvl5
    obtain ⟨ql, rfl, hql⟩ := id hvl1
    obtain ⟨qa, wsa, ea, hqa, hpa⟩ := id f1.ta
    have lwa := Paired.length hpa
    have ltr := transp_len ma ww
    refine ⟨_, rfl, (ww : Int), rfl, by omega, by omega, fun D1 hD => ?_⟩
    refine lc_all walk_range hD (by omega) (fun _ _ => trivial) (fun j v _ => ∃ z, (timesM (transp ma ww) ll)[j]? = some z ∧ v = .int z) (fun _ _ _ _ _ _ _ h => h) ?_ gm_name ?_
    · rintro j zz H4 H4' acc Ko hj s4 eD ⟨rfl, rfl⟩ kc
      have hj' : j < ww := by omega
      have ecol : (transp ma ww)[j]? = some (ma.map fun r => r.getD j 0) := by
        unfold transp
        rw [List.getElem?_map, List.getElem?_range hj']
        rfl
      refine ⟨rfl, ?_⟩
      refine ⟨_, rfl, (hh : Int), rfl, by omega, by omega, fun D2 hD2 => ?_⟩
      refine lc_all walk_range hD2 (by omega) (fun _ _ => trivial) (fun i v _ => ∃ z, (List.zipWith (· * ·) ll (ma.map fun r => r.getD j 0))[i]? = some z ∧ v = .int z) (fun _ _ _ _ _ _ _ h => h) ?_ gm_name ?_
      · rintro i y2 H5 H5' acc2 Ko2 hi s5 eD2 ⟨rfl, rfl⟩ k2
        have hi' : i < hh := by omega
        refine ⟨rfl, ?_⟩
        have el : ll[i]? = some (ll.getD i 0) := by
          rw [List.getD_eq_getElem?_getD, List.getElem?_eq_getElem (by omega)]
          rfl
        obtain ⟨v1, ev1⟩ : ∃ v, wsa[i]? = some v := ⟨wsa[i]'(by omega), List.getElem?_eq_getElem (by omega)⟩
        obtain ⟨r1, er1, b1, rfl, hb1⟩ := Paired.getR hpa ev1
        have h1 := g.wa r1 (List.mem_of_getElem? er1)
        have hbr := g.ba r1 (List.mem_of_getElem? er1)
        have e2 : r1[j]? = some (r1.getD j 0) := by
          rw [List.getD_eq_getElem?_getD, List.getElem?_eq_getElem (by omega)]
          rfl
        have sAll := s4.trans s5
        refine ⟨_, rfl, _, rfl, ql, _, _, _, rfl, rfl, Same.seqT sAll hql, at_of (j := i) (by omega) (ints_at el), ?_⟩
        refine ⟨_, rfl, _, rfl, qa, wsa, _, _, ea, rfl, Same.seqT sAll hqa, at_of (j := i) (by omega) ev1, ?_⟩
        refine ⟨_, rfl, b1, _, _, _, rfl, rfl, Same.seqT sAll hb1, at_of (j := j) (by omega) (ints_at e2), ?_⟩
        refine ⟨_, _, rfl, rfl, mulx_ok (bl.at el) (hbr.at e2) (by decide), ?_⟩
        refine k2 _ _ (Same.refl _) ⟨_, ?_, rfl⟩
        rw [List.getElem?_zipWith, el, List.getElem?_map, er1]
        rfl
      · intro H5 l s5 eD2 hpl
        have el := ints_list (by rw [List.length_zipWith, List.length_map]; omega) hpl
        refine ⟨D2, List.zipWith (· * ·) ll (ma.map fun r => r.getD j 0), rfl, .inl (.inl (by rw [← el]; exact eD2)), ?_⟩
        refine kc _ _ s5 ⟨_, timesM_get ecol, ?_⟩
        rw [dotI_comm]
        rfl
    · intro H4 l s4 eD hpl
      have el := ints_list (by rw [timesM_len]; omega) hpl
      subst el
      refine ⟨D1, _, rfl, .inl ⟨.inl (.inl eD), fun t nt => ?_⟩⟩
      have s5 := s4.trans (same_upd (o := .tup ((timesM (transp ma ww) ll).map V.int)) nt)
      refine ne_row (TRow.same s5 h1) ⟨t, rfl, .inl (.inl upd_same)⟩ rfl ⟨_, rfl, ?_⟩
      refine iteF ?_
      exact ⟨⟨a0, p, hh, ww, oo, va, vb, vc, _, y, z, kk, ma, mb, mc, y12, y13, y14, y15, _, _, y18, rr, ll, rfl, Fx.same s5 f1, g, TRow.same (s1.trans s5) hvr5, TRow.same s5 hvl1, lr, lll, br, bl⟩, q⟩

end
end K01
namespace K01
open PySem PySem.Spec PyProof.Rows L2 Gm
open C8 (Cal Met Mak pe_c pe_mt pe_mt0 pe_mk)
section
variable {P : Program} {w : World} {K : PySem.W.Frag} {mg : Str → Option Value} {base : Heap}
theorem rd_draws {K : PySem.W.Frag} {i j : Nat} {vs : List Nat} {σ : L2.St} {n : Nat} {p : Addr} {H : Hp} {Q : VK} (hi : σ[i]? = some (some (.int (n : Int)))) (hw : ∀ x, wipe (List.set (wipe σ vs) j x) vs = wipe σ vs) (h1 : ∀ x, (List.set (wipe σ vs) j x)[1]? = some (some (.ref p))) (hn : n ≤ 1000) (st : StAt H p)
    (q : ∀ t zs H', Off p H H' → StAt H' p → TRow K H' (.ref t) zs → zs.length = n → Bits 3 zs → Q (.ref t) H') :
    tCB (rTupleOf K) (tCons (tLc (iRng1 (tCons (tVar i) tNil)) (gName j) tYes (tOp (rI0 fun i j => V.int (i - j)) (tCall sp_law_take [] C8.E0 (tCons (tVar 1) (tCons (tC (V.int 9)) tNil))) (tC (V.int 4))) vs) tNil) σ H Q := by
  refine ⟨_, hi, (n : Int), rfl, by omega, by omega, fun D hD => ?_⟩
  have hpD : p ≠ D := by
    obtain ⟨s0, t0, e, _⟩ := st
    exact ne_of_none e hD
  refine lc_val walk_range (by omega) (fun H4 => Off p H H4 ∧ StAt H4 p) ⟨Same.off (same_upd hD), StAt.same (same_upd hD) st⟩ (fun _ _ => trivial) ?_ (fun _ v => ∃ z : Int, v = V.int z ∧ z.natAbs ≤ 4) ?_ gm_name ?_
  · rintro H4 acc acc' ⟨o4, s0, t0, e, e2⟩ _
    refine ⟨fun b u n h => ?_, s0, t0, by rw [upd_ne hpD]; exact e, e2⟩
    rw [upd_ne (ne_of_none h hD)]
    exact o4 _ _ n h
  · rintro k x H4 H4' acc Ko hk ⟨o4, st4⟩ eD ⟨rfl, rfl⟩ kc
    refine ⟨hw _, ?_⟩
    refine ⟨_, h1 _, p, 9, rfl, st4, by decide, by decide, fun r H5 hr5 o5 st5 => ⟨_, _, rfl, rfl, ?_⟩⟩
    have eD5 : H5 D = some (.lst acc) := o5 _ _ (Ne.symm hpD) eD
    exact kc _ _ ⟨Off.trans o4 o5, st5⟩ eD5 ⟨(r : Int) - 4, rfl, by omega⟩
  · rintro H4 l2 ⟨o4, st4⟩ eD hpl
    obtain ⟨zs, rfl, lz, bz⟩ := vals_small hpl
    rw [List.length_range] at lz
    refine ⟨D, _, rfl, .inl ⟨.inl (.inl eD), fun t nt => ?_⟩⟩
    exact q t zs _ (Off.trans o4 (Same.off (same_upd nt))) (StAt.same (same_upd nt) st4) ⟨t, rfl, .inl (.inl upd_same)⟩ (by omega) (fun z hz => Nat.lt_of_le_of_lt (bz z hz) (by decide))
theorem ch16 (T : Top K mg) (hN : base.NoSeer) (hT : P.given.tree = none) {cdv : Value} {A : Around} {outer : List Env} {s : Shared} {H0 : Hp} {E : XK} (hr : Room 7 (A.deeper (envOfC "law" (defScope s_law) s.heap.objs.size T.a_law cdv))) :
    PSs (XL P w base T cdv A outer s H0 E) ((defBody s_law).drop 16) (tK (M1 K T.C_Grid)) := by
  refine pss_wk ((pss_cons (ps_set (i := 16) sc_law.nd rfl (by first | exact .inl rfl | exact .inr rfl) (pe_callTy (tupK K rfl) (by rfl) T.z_tuple (by decide +kernel) (pa_cons (pe_lc (own := [("j", 22)]) (g := (gName 22)) (by rfl) sc_law.nd (pi_range1 (by rfl) T.z_range (pa_cons (pv 3) pa_nil)) ((by show BlkOk ["script", "state", "height", "width", "other", "a", "b", "c", "x", "y", "z", "k", "due", "told", "at", "turned", "row", "line", "both", "i", "p", "q", "j", "given"] (defScope s_law) _ _; exact blkOk_by (by decide +kernel))) (fun _ _ _ _ _ => (pg_name (i := 22) sc_law.nd rfl (by first | exact .inl rfl | exact .inr rfl))) (fun _ _ _ _ _ => pts_nil) (fun _ _ _ _ _ => (pe_op op_sub (pe_c (cal_law_take T hN hT) hr (by decide) (by rfl) (pa_cons (pv 1) (pa_cons pe_int pa_nil))) pe_int))) pa_nil)))
      (pss_cons (ps_set (i := 17) sc_law.nd rfl (by first | exact .inl rfl | exact .inr rfl) (pe_callTy (tupK K rfl) (by rfl) T.z_tuple (by decide +kernel) (pa_cons (pe_lc (own := [("j", 22)]) (g := (gName 22)) (by rfl) sc_law.nd (pi_range1 (by rfl) T.z_range (pa_cons (pv 2) pa_nil)) ((by show BlkOk ["script", "state", "height", "width", "other", "a", "b", "c", "x", "y", "z", "k", "due", "told", "at", "turned", "row", "line", "both", "i", "p", "q", "j", "given"] (defScope s_law) _ _; exact blkOk_by (by decide +kernel))) (fun _ _ _ _ _ => (pg_name (i := 22) sc_law.nd rfl (by first | exact .inl rfl | exact .inr rfl))) (fun _ _ _ _ _ => pts_nil) (fun _ _ _ _ _ => (pe_op op_sub (pe_c (cal_law_take T hN hT) hr (by decide) (by rfl) (pa_cons (pv 1) (pa_cons pe_int pa_nil))) pe_int))) pa_nil)))
      (ch18 T hN hT hr)))) ?_
  rintro D σ H ⟨⟨a0, p, hh, ww, oo, va, vb, vc, x, y, z, kk, ma, mb, mc, y12, y13, y14, y15, y16, y17, y18, rfl, f, g⟩, q⟩
  have hlh := g.h3
  have hlw := g.w4
  refine rd_draws (n := ww) (p := p) rfl (fun _ => rfl) (fun _ => rfl) (by omega) f.st fun t1 rr H1 o1 st1 h1 l1 b1 => ?_
  have f1 := f.offp st1 o1
  refine rd_draws (n := hh) (p := p) rfl (fun _ => rfl) (fun _ => rfl) (by omega) st1 fun t2 ll H2 o2 st2 h2 l2 b2 => ?_
  exact ⟨⟨a0, p, hh, ww, oo, va, vb, vc, x, y, z, kk, ma, mb, mc, y12, y13, y14, y15, _, _, y18, rr, ll, rfl, f1.offp st2 o2, g, trowP st1 o2 h1, h2, l1, l2, b1, b2⟩, q⟩
theorem ch13 (T : Top K mg) (hN : base.NoSeer) (hT : P.given.tree = none) {cdv : Value} {A : Around} {outer : List Env} {s : Shared} {H0 : Hp} {E : XK} (hr : Room 7 (A.deeper (envOfC "law" (defScope s_law) s.heap.objs.size T.a_law cdv))) :
    PSs (XL P w base T cdv A outer s H0 E) ((defBody s_law).drop 13) (tK (M1 K T.C_Grid)) := by
  refine pss_wk ((pss_cons (ps_if (PW.pt (pw_or (pt_cmpR (neDK K rfl hr) (fldK K rfl (pe_op ((op_ownBin (op := .Mult) (E := L2.E0) T.sf_Grid T.m_Grid_mul.at_ T.m_Grid_mul.fn (ok_Grid_mul T hN hT) (hr.mono (by decide)) T.b_Grid_mul pass0)) (pv 8) (pv 10)) rfl) (pe_c (cal_law_product T hN hT) hr (by decide) (by rfl) (pa_cons (pv 5) (pa_cons (pv 7) (pa_cons (pv 4) pa_nil)))) (nomark _)) (pw_or1 (pt_not (pt_val (pe_c (cal_law_is_rows T hN hT) hr (by decide) (by rfl) (pa_cons (pe_op ((op_ownBin (op := .Mult) (E := L2.E0) T.sf_Grid T.m_Grid_mul.at_ T.m_Grid_mul.fn (ok_Grid_mul T hN hT) (hr.mono (by decide)) T.b_Grid_mul pass0)) (pv 8) (pv 10)) (pa_cons (pv 2) (pa_cons (pv 4) pa_nil)))))))))
      (pss_one (ps_ret pe_bl))
      pss_nil)
      (pss_cons (ps_set (i := 15) sc_law.nd rfl (by first | exact .inl rfl | exact .inr rfl) (pe_mt0 (met_Grid_transposed T hN hT) hr (by decide) (pv 8)))
      (pss_cons (ps_if (PW.pt (pw_or (pt_cmpR (neDK K rfl hr) (fldK K rfl (pv 15) rfl) (pe_callTy (tupK K rfl) (by rfl) T.z_tuple (by decide +kernel) (pa_cons (pe_lc (own := [("j", 22)]) (g := (gName 22)) (by rfl) sc_law.nd (pi_range1 (by rfl) T.z_range (pa_cons (pv 3) pa_nil)) ((by show BlkOk ["script", "state", "height", "width", "other", "a", "b", "c", "x", "y", "z", "k", "due", "told", "at", "turned", "row", "line", "both", "i", "p", "q", "j", "given"] (defScope s_law) _ _; exact blkOk_by (by decide +kernel))) (fun _ _ _ _ _ => (pg_name (i := 22) sc_law.nd rfl (by first | exact .inl rfl | exact .inr rfl))) (fun _ _ _ _ _ => pts_nil) (fun _ _ _ _ _ => (pe_callTy (tupK K rfl) (by rfl) T.z_tuple (by decide +kernel) (pa_cons (pe_lc (own := [("row", 16)]) (g := (gName 16)) (by rfl) sc_law.nd (piS K rfl (pv 5)) ((by show BlkOk ["script", "state", "height", "width", "other", "a", "b", "c", "x", "y", "z", "k", "due", "told", "at", "turned", "row", "line", "both", "i", "p", "q", "j", "given"] (relS _ (defScope s_law)) _ _; exact blkOk_by (by decide +kernel))) (fun _ _ _ _ _ => (pg_name (i := 16) sc_law.nd rfl (by first | exact .inl rfl | exact .inr rfl))) (fun _ _ _ _ _ => pts_nil) (fun _ _ _ _ _ => (pe_ix (ixT K rfl) (pv 16) (pv 22) (fun _ _ => rfl)))) pa_nil)))) pa_nil)) (nomark _)) (pw_or1 (pt_not (pt_val (pe_c (cal_law_is_rows T hN hT) hr (by decide) (by rfl) (pa_cons (pv 15) (pa_cons (pv 3) (pa_cons (pv 2) pa_nil)))))))))
      (pss_one (ps_ret pe_bl))
      pss_nil)
      (ch16 T hN hT hr))))) ?_
  rintro D σ H ⟨⟨a0, p, hh, ww, oo, va, vb, vc, x, y, z, kk, ma, mb, mc, y12, y13, y14, y15, y16, y17, y18, rfl, f, g⟩, q⟩
  have hlm := g.la
  have hlc := g.lc
  have hlh := g.h3
  have hlw := g.w4
  have hlo := g.o3
  -- (x * z).rows != _law_product(a, c, other)
  refine ⟨_, rfl, _, rfl, mul_grid f.gx f.gz hlc.symm (by omega) (by omega) (by omega) g.ba g.bc (by decide) fun g1 H1 s1 G1 => ?_⟩
  have f1 := Fx.same s1 f
  obtain ⟨⟨p1, d1, t1, rfl, ho1, ht1⟩, hr1⟩ := id G1
  refine ⟨p1, _, d1, _, _, rfl, ho1, T.cl_Grid, T.n_rows, flds_rows _ _, ?_⟩
  refine ⟨_, rfl, _, rfl, _, rfl, va, vc, ma, mc, oo, 5, 5, rfl, f1.ta, f1.tc, by omega, by omega, by omega, fun r hr => by rw [g.wa r hr, hlc], g.wc, g.ba, g.bc, by decide, fun v2 H2 s2 h2 => ?_⟩
  refine ne_rows (TRows.same s2 ht1) h2 rfl ⟨_, rfl, ?_⟩
  refine iteF ?_
  have f2 := Fx.same s2 f1
  refine ⟨_, rfl, _, rfl, mul_grid f2.gx f2.gz hlc.symm (by omega) (by omega) (by omega) g.ba g.bc (by decide) fun g3 H3 s3 G3 => ?_⟩
  refine ⟨_, rfl, _, rfl, g3, mulM ma mc oo, hh, oo, rfl, G3, (mulM_len ..).trans hlm, by omega, ?_⟩
  refine ⟨_, rfl, ?_⟩
  refine iteF ?_
  have f3 := Fx.same s3 f2
  obtain ⟨⟨px, dx, tx, rfl, hox, htx⟩, hrx⟩ := id f3.gx
  -- turned
  refine ⟨_, rfl, px, dx, _, rfl, hox, m_transposed _ _, _, ma, ww, rfl, f3.gx, by omega, by omega, fun g4 H4 s4 G4 => ?_⟩
  have f4 := Fx.same s4 f3
  rw [hlm] at G4
  obtain ⟨⟨p4, d4, t4, rfl, ho4, ht4⟩, hr4⟩ := id G4
  refine ⟨_, rfl, p4, _, d4, _, _, rfl, ho4, T.cl_Grid, T.n_rows, flds_rows _ _, ?_⟩
  obtain ⟨qa, wsa, ea, hqa, hpa⟩ := id f4.ta
  have lwa := Paired.length hpa
  have ltr := transp_len ma ww
  refine ⟨_, rfl, (ww : Int), rfl, by omega, by omega, fun D1 hD => ?_⟩
  refine lc_all walk_range hD (by omega) (fun _ _ => trivial) (fun i v H4 => ∃ r, (transp ma ww)[i]? = some r ∧ TRow K H4 v r) (fun i v H4 H5 acc e o ⟨r, er, h⟩ => ⟨r, er, TRow.off e o h⟩) ?_ gm_name ?_
  · rintro j zz H5 H5' acc Ko hj s5 eD ⟨rfl, rfl⟩ kc
    have hj' : j < ww := by omega
    have ecol : (transp ma ww)[j]? = some (ma.map fun r => r.getD j 0) := by
      unfold transp
      rw [List.getElem?_map, List.getElem?_range hj']
      rfl
    refine ⟨rfl, ?_⟩
    refine ⟨_, rfl, qa, wsa, ea, .inr (Same.seqT s5 hqa), fun J G0 W hG D2 hD2 => ?_⟩
    refine lc_all W hD2 (by omega) (fun H4 s4 => hG H4 fun b _ o => s4 b o) (fun i v _ => ∃ z, (ma.map fun r => r.getD j 0)[i]? = some z ∧ v = .int z) (fun _ _ _ _ _ _ _ h => h) ?_ gm_name ?_
    · rintro i zz H6 H6' acc2 Ko2 hi s6 eD2 ⟨rfl, ex⟩ k2
      obtain ⟨r, er, c, rfl, hc⟩ := Paired.getR hpa ex
      have hrl := g.wa r (List.mem_of_getElem? er)
      have e2 : r[j]? = some (r.getD j 0) := by
        rw [List.getD_eq_getElem?_getD, List.getElem?_eq_getElem (by omega)]
        rfl
      refine ⟨rfl, ?_⟩
      refine ⟨_, rfl, _, rfl, c, _, _, _, rfl, rfl, Same.seqT (s5.trans s6) hc, at_of (j := j) (by omega) (ints_at e2), ?_⟩
      refine k2 _ _ (Same.refl _) ⟨_, ?_, rfl⟩
      rw [List.getElem?_map, er]
      rfl
    · intro H6 l s6 eD2 hpl
      have el := ints_list (by rw [List.length_map]; omega) hpl
      subst el
      refine ⟨D2, _, rfl, .inl ⟨.inl (.inl eD2), fun t nt => ?_⟩⟩
      exact kc _ _ (s6.trans (same_upd nt)) ⟨_, ecol, t, rfl, .inl (.inl upd_same)⟩
  · intro H5 l s5 eD hpl
    refine ⟨D1, l, rfl, .inl ⟨.inl (.inl eD), fun t nt => ?_⟩⟩
    have sV := s5.trans (same_upd (o := .tup l) nt)
    have hdue : TRows K (upd H5 t (.tup l)) (.ref t) (transp ma ww) := ⟨t, l, rfl, .inl (.inl upd_same), L2.Paired.mapP (paired_at (m := transp ma ww) (by omega) hpl) fun _ _ => TRow.same (same_upd nt)⟩
    refine ne_rows (TRows.same sV ht4) hdue rfl ⟨_, rfl, ?_⟩
    refine iteF ?_
    refine ⟨_, rfl, _, rfl, _, rfl, _, transp ma ww, ww, hh, rfl, IsGrid.same sV G4, ltr, by omega, ?_⟩
    refine ⟨_, rfl, ?_⟩
    refine iteF ?_
    exact ⟨⟨a0, p, hh, ww, oo, va, vb, vc, _, y, z, kk, ma, mb, mc, y12, y13, y14, _, y16, y17, y18, rfl, Fx.same sV f4, g⟩, q⟩

end
end K01
namespace K01
open PySem PySem.Spec PyProof.Rows L2 Gm
open C8 (Cal Met Mak pe_c pe_mt pe_mt0 pe_mk)
section
variable {P : Program} {w : World} {K : PySem.W.Frag} {mg : Str → Option Value} {base : Heap}
theorem zipM_len (f : Int → Int → Int) {m1 m2 : List (List Int)} {n : Nat} (h1 : m1.length = n) (h2 : m2.length = n) : (zipM f m1 m2).length = n := by
  unfold zipM
  rw [List.length_zipWith, h1, h2, Nat.min_self]
def MD (K : PySem.W.Frag) (C : Addr) : L2.St → Hp → Prop := fun σ H => ∃ (a0 p : Addr) (hh ww oo : Nat) (va vb vc x y z : V) (kk : Int) (ma mb mc : List (List Int)) (R : Addr) (ds : List V),
  σ = [some (.ref a0), some (.ref p), some (.int hh), some (.int ww), some (.int oo), some va, some vb, some vc, some x, some y, some z, some (.int kk), some (.ref R), none, none, none, none, none, none, none, none, none, none, none] ∧ Fx K C H x y z va vb vc p ma mb mc ww oo ∧ Fz ma mb mc hh ww oo kk ∧
  H R = some (.lst ds) ∧ Paired (fun v m => TRows K H v m) ds [zipM (fun x y => x + y) ma mb, zipM (fun x y => x - y) ma mb, scaleM (-1) ma, scaleM kk ma, ma ++ mb]
theorem ch11 (T : Top K mg) (hN : base.NoSeer) (hT : P.given.tree = none) {cdv : Value} {A : Around} {outer : List Env} {s : Shared} {H0 : Hp} {E : XK} (hr : Room 7 (A.deeper (envOfC "law" (defScope s_law) s.heap.objs.size T.a_law cdv))) :
    PSs (XL P w base T cdv A outer s H0 E) ((defBody s_law).drop 11) (tK (MD K T.C_Grid)) := by
  refine pss_wk ((pss_cons (ps_set (i := 13) sc_law.nd rfl (by first | exact .inl rfl | exact .inr rfl) (pe_lst (pa_cons (pe_op ((op_ownBin (op := .Add) (E := L2.E0) T.sf_Grid T.m_Grid_add.at_ T.m_Grid_add.fn (ok_Grid_add T hN hT) (hr.mono (by decide)) T.b_Grid_add pass0)) (pv 8) (pv 9)) (pa_cons (pe_op ((op_ownBin (op := .Sub) (E := L2.E0) T.sf_Grid T.m_Grid_sub.at_ T.m_Grid_sub.fn (ok_Grid_sub T hN hT) (hr.mono (by decide)) T.b_Grid_sub pass0)) (pv 8) (pv 9)) (pa_cons (pe_un (un_ownNeg (E := L2.E0) T.m_Grid_neg.at_ T.m_Grid_neg.fn (ok_Grid_neg T hN hT) (hr.mono (by decide)) T.b_Grid_neg pass0) (pv 8)) (pa_cons (pe_mt (met_Grid_scaled T hN hT) hr (by decide) (pv 8) (pa_cons (pv 11) pa_nil)) (pa_cons (pe_mt (met_Grid_stacked T hN hT) hr (by decide) (pv 8) (pa_cons (pv 9) pa_nil)) pa_nil)))))))
      (pss_cons (ps_for PassesOwn.never rfl (pi_range1 (by rfl) T.z_range (pa_cons pe_int pa_nil)) (pg_name (i := 14) sc_law.nd rfl (by first | exact .inl rfl | exact .inr rfl))
      (pss_one (ps_if (PW.pt (pw_or (pt_cmpR (neDK K rfl hr) (fldK K rfl (pe_ix (ixL K rfl) (pv 13) (pv 14) (fun _ _ => rfl)) rfl) (pe_ix (ixL K rfl) (pv 12) (pv 14) (fun _ _ => rfl)) (nomark _)) (pw_or1 (pt_not (pt_val (pe_c (cal_law_is_rows T hN hT) hr (by decide) (by rfl) (pa_cons (pe_ix (ixL K rfl) (pv 13) (pv 14) (fun _ _ => rfl)) (pa_cons (pe_callB (lenS K rfl) (by rfl) T.z_len (by decide +kernel) (pa_cons (pe_ix (ixL K rfl) (pv 12) (pv 14) (fun _ _ => rfl)) pa_nil)) (pa_cons (pv 3) pa_nil)))))))))
      (pss_one (ps_ret pe_bl))
      pss_nil)))
      (ch13 T hN hT hr)))) ?_
  rintro D σ H ⟨⟨a0, p, hh, ww, oo, va, vb, vc, x, y, z, kk, ma, mb, mc, R, ds, rfl, f, g, eR, hds⟩, q⟩
  have hlm := g.la
  have hlb := g.lb
  have hlh := g.h3
  have hlw := g.w4
  obtain ⟨⟨px, dx, tx, rfl, hox, htx⟩, hrx⟩ := id f.gx
  obtain ⟨⟨py, dy, ty, rfl, hoy, hty⟩, hry⟩ := id f.gy
  -- told
  refine ⟨_, rfl, _, rfl, px, py, dx, dy, _, _, rfl, rfl, hox, hoy, _, ma, ww, _, mb, rfl, f.gx, f.gy, by omega, by omega, by omega, fun g1 H1 s1 G1 => ?_⟩
  have f1 := Fx.same s1 f
  refine ⟨_, rfl, _, rfl, px, py, dx, dy, _, _, rfl, rfl, s1 _ _ hox, s1 _ _ hoy, _, ma, ww, _, mb, rfl, f1.gx, f1.gy, by omega, by omega, by omega, fun g2 H2 s2 G2 => ?_⟩
  have f2 := Fx.same s2 f1
  have s12 := s1.trans s2
  refine ⟨_, rfl, px, dx, _, rfl, s12 _ _ hox, _, ma, ww, 5, rfl, f2.gx, by omega, by omega, g.ba, by decide, fun g3 H3 s3 G3 => ?_⟩
  have f3 := Fx.same s3 f2
  have s13 := s12.trans s3
  refine ⟨_, rfl, px, dx, _, rfl, s13 _ _ hox, m_scaled _ _, _, rfl, _, ma, ww, kk, 3, 5, rfl, f3.gx, by omega, by omega, g.k4, g.ba, by decide, fun g4 H4 s4 G4 => ?_⟩
  have f4 := Fx.same s4 f3
  have s14 := s13.trans s4
  refine ⟨_, rfl, px, dx, _, rfl, s14 _ _ hox, m_stacked _ _, _, rfl, _, ma, ww, _, mb, rfl, f4.gx, f4.gy, by omega, by omega, fun g5 H5 s5 G5 => ?_⟩
  have s15 := s14.trans s5
  refine ⟨by show 5 ≤ sizeLine; decide, fun L nL => ?_⟩
  have sL := same_upd (o := .lst [g1, g2, g3, g4, g5]) nL
  have hgs : Paired (fun v m => IsGrid K T.C_Grid (upd H5 L (.lst [g1, g2, g3, g4, g5])) v m ww) [g1, g2, g3, g4, g5] [zipM (fun x y => x + y) ma mb, zipM (fun x y => x - y) ma mb, scaleM (-1) ma, scaleM kk ma, ma ++ mb] :=
    .cons (IsGrid.same (s2.trans (s3.trans (s4.trans (s5.trans sL)))) G1) (.cons (IsGrid.same (s3.trans (s4.trans (s5.trans sL))) G2) (.cons (IsGrid.same (s4.trans (s5.trans sL)) G3) (.cons (IsGrid.same (s5.trans sL) G4) (.cons (IsGrid.same sL G5) .nil))))
  have eL : (upd H5 L (.lst [g1, g2, g3, g4, g5])) L = some (.lst [g1, g2, g3, g4, g5]) := upd_same
  have s16 := s15.trans sL
  have f6 := Fx.same s16 f
  have eR6 := s16 _ _ eR
  have hds6 := L2.Paired.mapP hds fun _ _ => TRows.same s16
  have hml : ∀ m ∈ [zipM (fun x y => x + y) ma mb, zipM (fun x y => x - y) ma mb, scaleM (-1) ma, scaleM kk ma, ma ++ mb], m.length ≤ 1000 := by
    intro m hm
    have e1 := zipM_len (fun x y => x + y) hlm hlb
    have e2 := zipM_len (fun x y => x - y) hlm hlb
    have e3 := scaleM_len (-1) ma
    have e4 := scaleM_len kk ma
    simp only [List.mem_cons, List.not_mem_nil, or_false] at hm
    rcases hm with rfl | rfl | rfl | rfl | rfl
    · omega
    · omega
    · omega
    · omega
    · rw [List.length_append]
      omega
  generalize [zipM (fun x y => x + y) ma mb, zipM (fun x y => x - y) ma mb, scaleM (-1) ma, scaleM kk ma, ma ++ mb] = ms at hgs hds6 hml
  generalize upd H5 L (.lst [g1, g2, g3, g4, g5]) = H6 at hgs eL f6 eR6 hds6 ⊢
  have lgs := Paired.length hgs
  have lds := Paired.length hds6
  -- for at in range(5)
  refine ⟨_, rfl, by decide, by decide, ?_⟩
  refine for_it walk_range (fun i σ H2 => ∃ y14, σ = [some (.ref a0), some (.ref p), some (.int hh), some (.int ww), some (.int oo), some va, some vb, some vc, some (.ref px), some (.ref py), some z, some (.int kk), some (.ref R), some (.ref L), y14, none, none, none, none, none, none, none, none, none] ∧ H2 = H6) ⟨_, rfl, rfl⟩ (fun _ _ _ _ _ => trivial) ?_ ?_
  · rintro i zz σ H2 H2' hi ⟨y14, rfl, rfl⟩ ⟨rfl, rfl⟩
    have hi5 : i < 5 := hi
    obtain ⟨gv, egv⟩ : ∃ v, [g1, g2, g3, g4, g5][i]? = some v := ⟨_, List.getElem?_eq_getElem hi5⟩
    obtain ⟨m, em, Gm'⟩ := Paired.getR hgs egv
    obtain ⟨dv, edv, hdv⟩ := Paired.getL hds6 em
    obtain ⟨pg, dg, tg, rfl, hog, htg⟩ := id Gm'.1
    obtain ⟨qd, wsd, rfl, hqd, hpd⟩ := id hdv
    have lwd := Paired.length hpd
    refine ⟨_, rfl, _, rfl, L, _, _, _, rfl, rfl, .inl (.inl eL), at_of (j := i) (by omega) egv, ?_⟩
    refine ⟨pg, _, dg, _, _, rfl, hog, T.cl_Grid, T.n_rows, flds_rows _ _, ?_⟩
    refine ⟨_, rfl, _, rfl, R, _, _, _, rfl, rfl, .inl (.inl eR6), at_of (j := i) (by omega) edv, ?_⟩
    refine ne_rows htg hdv rfl ⟨_, rfl, ?_⟩
    refine iteF ?_
    refine ⟨_, rfl, _, rfl, L, _, _, _, rfl, rfl, .inl (.inl eL), at_of (j := i) (by omega) egv, ?_⟩
    refine ⟨_, rfl, _, rfl, R, _, _, _, rfl, rfl, .inl (.inl eR6), at_of (j := i) (by omega) edv, ?_⟩
    refine ⟨qd, wsd, rfl, .inr hqd, _, rfl, ?_⟩
    refine ⟨_, m, wsd.length, ww, rfl, Gm', lwd.symm, by rw [lwd]; exact hml m (List.mem_of_getElem? em), ?_⟩
    refine ⟨_, rfl, ?_⟩
    refine iteF ?_
    exact ⟨_, rfl, rfl⟩
  · rintro σ H2 ⟨y14, rfl, rfl⟩
    exact ⟨⟨a0, p, hh, ww, oo, va, vb, vc, _, _, z, kk, ma, mb, mc, _, _, _, _, _, _, _, rfl, f6, g⟩, q⟩

end
end K01
namespace K01
open PySem PySem.Spec PyProof.Rows L2 Gm
open C8 (Cal Met Mak pe_c pe_mt pe_mt0 pe_mk)
section
variable {P : Program} {w : World} {K : PySem.W.Frag} {mg : Str → Option Value} {base : Heap}
theorem push_due {K : PySem.W.Frag} {C : Addr} {H : Hp} {x y z va vb vc v : V} {p R : Addr} {ma mb mc m : List (List Int)} {ww oo : Nat} {ds : List V} {ms : List (List (List Int))} (n : p ≠ R) (f : Fx K C H x y z va vb vc p ma mb mc ww oo) (eR : H R = some (.lst ds)) (hd : Paired (fun v m => TRows K H v m) ds ms) (h : TRows K H v m) :
    Fx K C (upd H R (.lst (ds ++ [v]))) x y z va vb vc p ma mb mc ww oo ∧ (upd H R (.lst (ds ++ [v]))) R = some (.lst (ds ++ [v])) ∧ Paired (fun u m => TRows K (upd H R (.lst (ds ++ [v]))) u m) (ds ++ [v]) (ms ++ [m]) :=
  ⟨Fx.off eR n Off.upd f, upd_same, Paired.snoc (L2.Paired.mapP hd fun _ _ r => TRows.off eR Off.upd r) (TRows.off eR Off.upd h)⟩
theorem ch6 (T : Top K mg) (hN : base.NoSeer) (hT : P.given.tree = none) {cdv : Value} {A : Around} {outer : List Env} {s : Shared} {H0 : Hp} {E : XK} (hr : Room 7 (A.deeper (envOfC "law" (defScope s_law) s.heap.objs.size T.a_law cdv))) :
    PSs (XL P w base T cdv A outer s H0 E) ((defBody s_law).drop 6) (tK (M0 K T.C_Grid)) := by
  refine pss_wk ((pss_cons (ps_set (i := 12) sc_law.nd rfl (by first | exact .inl rfl | exact .inr rfl) (pe_lst (pa_cons (pe_callTy (tupK K rfl) (by rfl) T.z_tuple (by decide +kernel) (pa_cons (pe_lc (own := [("i", 19)]) (g := (gName 19)) (by rfl) sc_law.nd (pi_range1 (by rfl) T.z_range (pa_cons (pv 2) pa_nil)) ((by show BlkOk ["script", "state", "height", "width", "other", "a", "b", "c", "x", "y", "z", "k", "due", "told", "at", "turned", "row", "line", "both", "i", "p", "q", "j", "given"] (defScope s_law) _ _; exact blkOk_by (by decide +kernel))) (fun _ _ _ _ _ => (pg_name (i := 19) sc_law.nd rfl (by first | exact .inl rfl | exact .inr rfl))) (fun _ _ _ _ _ => pts_nil) (fun _ _ _ _ _ => (pe_callTy (tupK K rfl) (by rfl) T.z_tuple (by decide +kernel) (pa_cons (pe_lc (own := [("p", 20), ("q", 21)]) (g := (gTup K 2 (gCons (gName 20) (gCons (gName 21) gNil)))) (by rfl) sc_law.nd (piZipT K rfl (by rfl) T.z_zip (pa_cons (pe_ix (ixT K rfl) (pv 5) (pv 19) (fun _ _ => rfl)) (pa_cons (pe_ix (ixT K rfl) (pv 6) (pv 19) (fun _ _ => rfl)) pa_nil)) (fun _ _ _ _ f h => let ⟨v1, e1, v2, e2, p, xs, i, v, r1, r2, hs, ea, v1', e1', v2', e2', p', xs', i', v', r1', r2', hs', ea', h⟩ := h; ⟨v1, e1, v2, e2, p, xs, i, v, r1, r2, hs, ea, v1', e1', v2', e2', p', xs', i', v', r1', r2', hs', ea', f _ _ h⟩)) ((by show BlkOk ["script", "state", "height", "width", "other", "a", "b", "c", "x", "y", "z", "k", "due", "told", "at", "turned", "row", "line", "both", "i", "p", "q", "j", "given"] (relS _ (defScope s_law)) _ _; exact blkOk_by (by decide +kernel))) (fun _ _ _ _ _ => (pg_tup rfl (pgs_cons (pg_name (i := 20) sc_law.nd rfl (by first | exact .inl rfl | exact .inr rfl)) (pgs_cons (pg_name (i := 21) sc_law.nd rfl (by first | exact .inl rfl | exact .inr rfl)) pgs_nil)))) (fun _ _ _ _ _ => pts_nil) (fun _ _ _ _ _ => (pe_op op_add (pv 20) (pv 21)))) pa_nil)))) pa_nil)) pa_nil)))
      (pss_cons (ps_expr (pe_bm PySem.F.plainAttrs_list PySem.F.slot_list_append PySem.F.type_list_append mt_append (pv 12) (pa_cons (pe_callTy (tupK K rfl) (by rfl) T.z_tuple (by decide +kernel) (pa_cons (pe_lc (own := [("i", 19)]) (g := (gName 19)) (by rfl) sc_law.nd (pi_range1 (by rfl) T.z_range (pa_cons (pv 2) pa_nil)) ((by show BlkOk ["script", "state", "height", "width", "other", "a", "b", "c", "x", "y", "z", "k", "due", "told", "at", "turned", "row", "line", "both", "i", "p", "q", "j", "given"] (defScope s_law) _ _; exact blkOk_by (by decide +kernel))) (fun _ _ _ _ _ => (pg_name (i := 19) sc_law.nd rfl (by first | exact .inl rfl | exact .inr rfl))) (fun _ _ _ _ _ => pts_nil) (fun _ _ _ _ _ => (pe_callTy (tupK K rfl) (by rfl) T.z_tuple (by decide +kernel) (pa_cons (pe_lc (own := [("p", 20), ("q", 21)]) (g := (gTup K 2 (gCons (gName 20) (gCons (gName 21) gNil)))) (by rfl) sc_law.nd (piZipT K rfl (by rfl) T.z_zip (pa_cons (pe_ix (ixT K rfl) (pv 5) (pv 19) (fun _ _ => rfl)) (pa_cons (pe_ix (ixT K rfl) (pv 6) (pv 19) (fun _ _ => rfl)) pa_nil)) (fun _ _ _ _ f h => let ⟨v1, e1, v2, e2, p, xs, i, v, r1, r2, hs, ea, v1', e1', v2', e2', p', xs', i', v', r1', r2', hs', ea', h⟩ := h; ⟨v1, e1, v2, e2, p, xs, i, v, r1, r2, hs, ea, v1', e1', v2', e2', p', xs', i', v', r1', r2', hs', ea', f _ _ h⟩)) ((by show BlkOk ["script", "state", "height", "width", "other", "a", "b", "c", "x", "y", "z", "k", "due", "told", "at", "turned", "row", "line", "both", "i", "p", "q", "j", "given"] (relS _ (defScope s_law)) _ _; exact blkOk_by (by decide +kernel))) (fun _ _ _ _ _ => (pg_tup rfl (pgs_cons (pg_name (i := 20) sc_law.nd rfl (by first | exact .inl rfl | exact .inr rfl)) (pgs_cons (pg_name (i := 21) sc_law.nd rfl (by first | exact .inl rfl | exact .inr rfl)) pgs_nil)))) (fun _ _ _ _ _ => pts_nil) (fun _ _ _ _ _ => (pe_op op_sub (pv 20) (pv 21)))) pa_nil)))) pa_nil)) pa_nil)))
      (pss_cons (ps_expr (pe_bm PySem.F.plainAttrs_list PySem.F.slot_list_append PySem.F.type_list_append mt_append (pv 12) (pa_cons (pe_callTy (tupK K rfl) (by rfl) T.z_tuple (by decide +kernel) (pa_cons (pe_lc (own := [("row", 16)]) (g := (gName 16)) (by rfl) sc_law.nd (piS K rfl (pv 5)) ((by show BlkOk ["script", "state", "height", "width", "other", "a", "b", "c", "x", "y", "z", "k", "due", "told", "at", "turned", "row", "line", "both", "i", "p", "q", "j", "given"] (defScope s_law) _ _; exact blkOk_by (by decide +kernel))) (fun _ _ _ _ _ => (pg_name (i := 16) sc_law.nd rfl (by first | exact .inl rfl | exact .inr rfl))) (fun _ _ _ _ _ => pts_nil) (fun _ _ _ _ _ => (pe_callTy (tupK K rfl) (by rfl) T.z_tuple (by decide +kernel) (pa_cons (pe_lc (own := [("p", 20)]) (g := (gName 20)) (by rfl) sc_law.nd (piS K rfl (pv 16)) ((by show BlkOk ["script", "state", "height", "width", "other", "a", "b", "c", "x", "y", "z", "k", "due", "told", "at", "turned", "row", "line", "both", "i", "p", "q", "j", "given"] (relS _ (defScope s_law)) _ _; exact blkOk_by (by decide +kernel))) (fun _ _ _ _ _ => (pg_name (i := 20) sc_law.nd rfl (by first | exact .inl rfl | exact .inr rfl))) (fun _ _ _ _ _ => pts_nil) (fun _ _ _ _ _ => (pe_un un_neg (pv 20)))) pa_nil)))) pa_nil)) pa_nil)))
      (pss_cons (ps_expr (pe_bm PySem.F.plainAttrs_list PySem.F.slot_list_append PySem.F.type_list_append mt_append (pv 12) (pa_cons (pe_callTy (tupK K rfl) (by rfl) T.z_tuple (by decide +kernel) (pa_cons (pe_lc (own := [("row", 16)]) (g := (gName 16)) (by rfl) sc_law.nd (piS K rfl (pv 5)) ((by show BlkOk ["script", "state", "height", "width", "other", "a", "b", "c", "x", "y", "z", "k", "due", "told", "at", "turned", "row", "line", "both", "i", "p", "q", "j", "given"] (defScope s_law) _ _; exact blkOk_by (by decide +kernel))) (fun _ _ _ _ _ => (pg_name (i := 16) sc_law.nd rfl (by first | exact .inl rfl | exact .inr rfl))) (fun _ _ _ _ _ => pts_nil) (fun _ _ _ _ _ => (pe_callTy (tupK K rfl) (by rfl) T.z_tuple (by decide +kernel) (pa_cons (pe_lc (own := [("p", 20)]) (g := (gName 20)) (by rfl) sc_law.nd (piS K rfl (pv 16)) ((by show BlkOk ["script", "state", "height", "width", "other", "a", "b", "c", "x", "y", "z", "k", "due", "told", "at", "turned", "row", "line", "both", "i", "p", "q", "j", "given"] (relS _ (defScope s_law)) _ _; exact blkOk_by (by decide +kernel))) (fun _ _ _ _ _ => (pg_name (i := 20) sc_law.nd rfl (by first | exact .inl rfl | exact .inr rfl))) (fun _ _ _ _ _ => pts_nil) (fun _ _ _ _ _ => (pe_op op_mulX (pv 11) (pv 20)))) pa_nil)))) pa_nil)) pa_nil)))
      (pss_cons (ps_expr (pe_bm PySem.F.plainAttrs_list PySem.F.slot_list_append PySem.F.type_list_append mt_append (pv 12) (pa_cons (pe_op (catK K rfl) (pv 5) (pv 6)) pa_nil)))
      (ch11 T hN hT hr))))))) ?_
  rintro D σ H ⟨⟨a0, p, hh, ww, oo, va, vb, vc, x, y, z, kk, ma, mb, mc, rfl, f, g⟩, q⟩
  have hlm := g.la
  have hlb := g.lb
  have hlh := g.h3
  have hlw := g.w4
  refine ⟨_, rfl, (hh : Int), rfl, by omega, by omega, fun D1 hD => ?_⟩
  refine lc_all walk_range hD (by omega) (fun _ _ => trivial) (fun i v H4 => ∃ r, (zipM (fun x y => x + y) ma mb)[i]? = some r ∧ TRow K H4 v r) (fun i v H4 H5 acc e o ⟨r, er, h⟩ => ⟨r, er, TRow.off e o h⟩) ?_ gm_name ?_
  · rintro i zz H4 H4' acc Ko hi s4 eD ⟨rfl, rfl⟩ kc
    have hi' : i < hh := by omega
    have Fi := Fx.same s4 f
    obtain ⟨pa, wsa, ea, hsa, hpa⟩ := Fi.ta
    obtain ⟨pb, wsb, eb, hsb, hpb⟩ := Fi.tb
    have lwa := Paired.length hpa
    have lwb := Paired.length hpb
    obtain ⟨v1, ev1⟩ : ∃ v, wsa[i]? = some v := ⟨wsa[i]'(by omega), List.getElem?_eq_getElem (by omega)⟩
    obtain ⟨v2, ev2⟩ : ∃ v, wsb[i]? = some v := ⟨wsb[i]'(by omega), List.getElem?_eq_getElem (by omega)⟩
    obtain ⟨r1, er1, b1, rfl, hb1⟩ := Paired.getR hpa ev1
    obtain ⟨r2, er2, b2, rfl, hb2⟩ := Paired.getR hpb ev2
    have h1 := g.wa r1 (List.mem_of_getElem? er1)
    have h2 := g.wb r2 (List.mem_of_getElem? er2)
    have eg : (zipM (fun x y => x + y) ma mb)[i]? = some (List.zipWith (fun x y => x + y) r1 r2) := by
      unfold zipM
      rw [List.getElem?_zipWith, er1, er2]
    refine ⟨rfl, ?_⟩
    refine ⟨_, rfl, _, rfl, pa, wsa, _, _, ea, rfl, hsa, at_of (j := i) (by omega) ev1, _, rfl, _, rfl, pb, wsb, _, _, eb, rfl, hsb, at_of (j := i) (by omega) ev2, b1, b2, _, _, rfl, hb1, hb2, fun D2 hD2 => ?_⟩
    have W2 : Walk (RZ.ItzT K b1 b2) ww (fun H => SqT K H b1 (r1.map V.int) ∧ SqT K H b2 (r2.map V.int)) (YPair (fun i => (r1.map V.int)[i]?) (fun i => (r2.map V.int)[i]?)) := walk_zipT (by rw [List.length_map, List.length_map, h1, h2, Nat.min_self])
    refine lc_all W2 hD2 (by omega) (fun H5 s5 => ⟨Same.seqT s5 hb1, Same.seqT s5 hb2⟩) (fun j v _ => ∃ z, (List.zipWith (fun x y => x + y) r1 r2)[j]? = some z ∧ v = .int z) (fun _ _ _ _ _ _ _ h => h) ?_ gm_pair ?_
    · rintro j y2 H5 H5' acc2 Ko2 hj s5 eD2 ⟨U, y1, y2, rfl, nU, rfl, f1, f2⟩ k2
      obtain ⟨z1, ez1, rfl⟩ := ints_get f1
      obtain ⟨z2, ez2, rfl⟩ := ints_get f2
      refine g_pair nU ⟨rfl, ?_⟩
      refine ⟨_, rfl, _, rfl, _, _, rfl, rfl, ?_⟩
      refine k2 _ _ (same_upd nU) ⟨z1 + z2, ?_, rfl⟩
      rw [List.getElem?_zipWith, ez1, ez2]
    · intro H5 l s5 eD2 hpl
      have el := ints_list (by rw [List.length_zipWith, h1, h2, Nat.min_self]) hpl
      subst el
      refine ⟨D2, _, rfl, .inl ⟨.inl (.inl eD2), fun t nt => ?_⟩⟩
      exact kc _ _ (s5.trans (same_upd nt)) ⟨_, eg, t, rfl, .inl (.inl upd_same)⟩
  · intro H4 l s4 eD hpl
    refine ⟨D1, l, rfl, .inl ⟨.inl (.inl eD), fun d1t nt => ?_⟩⟩
    have sV := s4.trans (same_upd (o := .tup l) nt)
    have d1 : TRows K (upd H4 d1t (.tup l)) (.ref d1t) (zipM (fun x y => x + y) ma mb) := ⟨d1t, l, rfl, .inl (.inl upd_same), L2.Paired.mapP (paired_at (m := zipM (fun x y => x + y) ma mb) (by rw [zipM_len _ hlm hlb]; omega) hpl) fun _ _ => TRow.same (same_upd nt)⟩
    have F1 := Fx.same sV f
    generalize upd H4 d1t (.tup l) = Ha at d1 F1 ⊢
    refine ⟨by show 1 ≤ sizeLine; decide, fun R nR => ?_⟩
    have sR := same_upd (o := .lst [.ref d1t]) nR
    have hpR : p ≠ R := by
      obtain ⟨l, e⟩ := F1.st.ref
      exact ne_of_none e nR
    have F1b := Fx.same sR F1
    have eR : (upd Ha R (.lst [.ref d1t])) R = some (.lst [.ref d1t]) := upd_same
    have hds : Paired (fun v m => TRows K (upd Ha R (.lst [.ref d1t])) v m) [.ref d1t] [zipM (fun x y => x + y) ma mb] := .cons (TRows.same sR d1) .nil
    generalize upd Ha R (.lst [.ref d1t]) = Hb at F1b eR hds ⊢
    refine ⟨_, rfl, .inl ⟨rfl, _, .inl (.inl eR)⟩, ?_⟩
    refine ⟨_, rfl, (hh : Int), rfl, by omega, by omega, fun D1 hD => ?_⟩
    refine lc_all walk_range hD (by omega) (fun _ _ => trivial) (fun i v H4 => ∃ r, (zipM (fun x y => x - y) ma mb)[i]? = some r ∧ TRow K H4 v r) (fun i v H4 H5 acc e o ⟨r, er, h⟩ => ⟨r, er, TRow.off e o h⟩) ?_ gm_name ?_
    · rintro i zz H4 H4' acc Ko hi s4 eD ⟨rfl, rfl⟩ kc
      have hi' : i < hh := by omega
      have Fi := Fx.same s4 F1b
      obtain ⟨pa, wsa, ea, hsa, hpa⟩ := Fi.ta
      obtain ⟨pb, wsb, eb, hsb, hpb⟩ := Fi.tb
      have lwa := Paired.length hpa
      have lwb := Paired.length hpb
      obtain ⟨v1, ev1⟩ : ∃ v, wsa[i]? = some v := ⟨wsa[i]'(by omega), List.getElem?_eq_getElem (by omega)⟩
      obtain ⟨v2, ev2⟩ : ∃ v, wsb[i]? = some v := ⟨wsb[i]'(by omega), List.getElem?_eq_getElem (by omega)⟩
      obtain ⟨r1, er1, b1, rfl, hb1⟩ := Paired.getR hpa ev1
      obtain ⟨r2, er2, b2, rfl, hb2⟩ := Paired.getR hpb ev2
      have h1 := g.wa r1 (List.mem_of_getElem? er1)
      have h2 := g.wb r2 (List.mem_of_getElem? er2)
      have eg : (zipM (fun x y => x - y) ma mb)[i]? = some (List.zipWith (fun x y => x - y) r1 r2) := by
        unfold zipM
        rw [List.getElem?_zipWith, er1, er2]
      refine ⟨rfl, ?_⟩
      refine ⟨_, rfl, _, rfl, pa, wsa, _, _, ea, rfl, hsa, at_of (j := i) (by omega) ev1, _, rfl, _, rfl, pb, wsb, _, _, eb, rfl, hsb, at_of (j := i) (by omega) ev2, b1, b2, _, _, rfl, hb1, hb2, fun D2 hD2 => ?_⟩
      have W2 : Walk (RZ.ItzT K b1 b2) ww (fun H => SqT K H b1 (r1.map V.int) ∧ SqT K H b2 (r2.map V.int)) (YPair (fun i => (r1.map V.int)[i]?) (fun i => (r2.map V.int)[i]?)) := walk_zipT (by rw [List.length_map, List.length_map, h1, h2, Nat.min_self])
      refine lc_all W2 hD2 (by omega) (fun H5 s5 => ⟨Same.seqT s5 hb1, Same.seqT s5 hb2⟩) (fun j v _ => ∃ z, (List.zipWith (fun x y => x - y) r1 r2)[j]? = some z ∧ v = .int z) (fun _ _ _ _ _ _ _ h => h) ?_ gm_pair ?_
      · rintro j y2 H5 H5' acc2 Ko2 hj s5 eD2 ⟨U, y1, y2, rfl, nU, rfl, f1, f2⟩ k2
        obtain ⟨z1, ez1, rfl⟩ := ints_get f1
        obtain ⟨z2, ez2, rfl⟩ := ints_get f2
        refine g_pair nU ⟨rfl, ?_⟩
        refine ⟨_, rfl, _, rfl, _, _, rfl, rfl, ?_⟩
        refine k2 _ _ (same_upd nU) ⟨z1 - z2, ?_, rfl⟩
        rw [List.getElem?_zipWith, ez1, ez2]
      · intro H5 l s5 eD2 hpl
        have el := ints_list (by rw [List.length_zipWith, h1, h2, Nat.min_self]) hpl
        subst el
        refine ⟨D2, _, rfl, .inl ⟨.inl (.inl eD2), fun t nt => ?_⟩⟩
        exact kc _ _ (s5.trans (same_upd nt)) ⟨_, eg, t, rfl, .inl (.inl upd_same)⟩
    · intro H4 l s4 eD hpl
      refine ⟨D1, l, rfl, .inl ⟨.inl (.inl eD), fun d2t nt => ?_⟩⟩
      have sV := s4.trans (same_upd (o := .tup l) nt)
      have d2 : TRows K (upd H4 d2t (.tup l)) (.ref d2t) (zipM (fun x y => x - y) ma mb) := ⟨d2t, l, rfl, .inl (.inl upd_same), L2.Paired.mapP (paired_at (m := zipM (fun x y => x - y) ma mb) (by rw [zipM_len _ hlm hlb]; omega) hpl) fun _ _ => TRow.same (same_upd nt)⟩
      have F2 := Fx.same sV F1b
      have eRa := sV _ _ eR
      have hdsa := L2.Paired.mapP hds fun _ _ => TRows.same sV
      clear eR hds
      generalize upd H4 d2t (.tup l) = Hc at d2 F2 eRa hdsa ⊢
      refine ⟨R, _, _, rfl, rfl, eRa, small1000 (by simp), ?_⟩
      obtain ⟨F2b, eR, hds⟩ := push_due hpR F2 eRa hdsa d2
      clear eRa hdsa
      generalize upd Hc R (.lst ([.ref d1t] ++ [.ref d2t])) = He at F2b eR hds ⊢
      refine ⟨_, rfl, .inl ⟨rfl, _, .inl (.inl eR)⟩, ?_⟩
      obtain ⟨qa, wsa, ea, hqa, hpa⟩ := id F2b.ta
      have lwa := Paired.length hpa
      refine ⟨_, rfl, qa, wsa, ea, .inr hqa, fun J G0 W hG D1 hD => ?_⟩
      refine lc_all W hD (by omega) (fun H4 s4 => hG H4 fun b _ o => s4 b o) (fun i v H4 => ∃ r, (scaleM (-1) ma)[i]? = some r ∧ TRow K H4 v r) (fun i v H4 H5 acc e o ⟨r, er, h⟩ => ⟨r, er, TRow.off e o h⟩) ?_ gm_name ?_
      · rintro i zz H4 H4' acc Ko hi s4 eD ⟨rfl, ex⟩ kc
        obtain ⟨r, er, c, rfl, hc⟩ := Paired.getR hpa ex
        have hrl := g.wa r (List.mem_of_getElem? er)
        have hrb := g.ba r (List.mem_of_getElem? er)
        have eg : (scaleM (-1) ma)[i]? = some (r.map fun x => (-1) * x) := by
          unfold scaleM
          rw [List.getElem?_map, er]
          rfl
        refine ⟨rfl, ?_⟩
        refine ⟨_, rfl, c, _, rfl, .inr (Same.seqT s4 hc), fun J2 G2 W2 hG2 D2 hD2 => ?_⟩
        refine lc_all W2 hD2 (by rw [List.length_map]; omega) (fun H5 s5 => hG2 H5 fun b _ o => s5 b o) (fun j v _ => ∃ z, (r.map fun x => (-1) * x)[j]? = some z ∧ v = .int z) (fun _ _ _ _ _ _ _ h => h) ?_ gm_name ?_
        · rintro j y2 H5 H5' acc2 Ko2 hj s5 eD2 ⟨rfl, ex2⟩ k2
          obtain ⟨z1, ez1, rfl⟩ := ints_get ex2
          refine ⟨rfl, ?_⟩
          refine ⟨_, rfl, ?_⟩
          refine ⟨z1, rfl, ?_⟩
          refine k2 _ _ (Same.refl _) ⟨_, ?_, rfl⟩
          rw [List.getElem?_map, ez1]
          show some (-1 * z1) = some (-z1)
          congr 1
          omega
        · intro H5 l s5 eD2 hpl
          have el := ints_list (by rw [List.length_map, List.length_map]) hpl
          subst el
          refine ⟨D2, _, rfl, .inl ⟨.inl (.inl eD2), fun t nt => ?_⟩⟩
          exact kc _ _ (s5.trans (same_upd nt)) ⟨_, eg, t, rfl, .inl (.inl upd_same)⟩
      · intro H4 l s4 eD hpl
        refine ⟨D1, l, rfl, .inl ⟨.inl (.inl eD), fun d3t nt => ?_⟩⟩
        have sV := s4.trans (same_upd (o := .tup l) nt)
        have d3 : TRows K (upd H4 d3t (.tup l)) (.ref d3t) (scaleM (-1) ma) := ⟨d3t, l, rfl, .inl (.inl upd_same), L2.Paired.mapP (paired_at (m := scaleM (-1) ma) (by rw [scaleM_len]; omega) hpl) fun _ _ => TRow.same (same_upd nt)⟩
        have F3 := Fx.same sV F2b
        have eRa := sV _ _ eR
        have hdsa := L2.Paired.mapP hds fun _ _ => TRows.same sV
        clear eR hds
        generalize upd H4 d3t (.tup l) = Hc at d3 F3 eRa hdsa ⊢
        refine ⟨R, _, _, rfl, rfl, eRa, small1000 (by simp), ?_⟩
        obtain ⟨F3b, eR, hds⟩ := push_due hpR F3 eRa hdsa d3
        clear eRa hdsa
        generalize upd Hc R (.lst (([.ref d1t] ++ [.ref d2t]) ++ [.ref d3t])) = He at F3b eR hds ⊢
        refine ⟨_, rfl, .inl ⟨rfl, _, .inl (.inl eR)⟩, ?_⟩
        obtain ⟨qa, wsa, ea, hqa, hpa⟩ := id F3b.ta
        have lwa := Paired.length hpa
        refine ⟨_, rfl, qa, wsa, ea, .inr hqa, fun J G0 W hG D1 hD => ?_⟩
        refine lc_all W hD (by omega) (fun H4 s4 => hG H4 fun b _ o => s4 b o) (fun i v H4 => ∃ r, (scaleM kk ma)[i]? = some r ∧ TRow K H4 v r) (fun i v H4 H5 acc e o ⟨r, er, h⟩ => ⟨r, er, TRow.off e o h⟩) ?_ gm_name ?_
        · rintro i zz H4 H4' acc Ko hi s4 eD ⟨rfl, ex⟩ kc
          obtain ⟨r, er, c, rfl, hc⟩ := Paired.getR hpa ex
          have hrl := g.wa r (List.mem_of_getElem? er)
          have hrb := g.ba r (List.mem_of_getElem? er)
          have eg : (scaleM kk ma)[i]? = some (r.map fun x => kk * x) := by
            unfold scaleM
            rw [List.getElem?_map, er]
            rfl
          refine ⟨rfl, ?_⟩
          refine ⟨_, rfl, c, _, rfl, .inr (Same.seqT s4 hc), fun J2 G2 W2 hG2 D2 hD2 => ?_⟩
          refine lc_all W2 hD2 (by rw [List.length_map]; omega) (fun H5 s5 => hG2 H5 fun b _ o => s5 b o) (fun j v _ => ∃ z, (r.map fun x => kk * x)[j]? = some z ∧ v = .int z) (fun _ _ _ _ _ _ _ h => h) ?_ gm_name ?_
          · rintro j y2 H5 H5' acc2 Ko2 hj s5 eD2 ⟨rfl, ex2⟩ k2
            obtain ⟨z1, ez1, rfl⟩ := ints_get ex2
            refine ⟨rfl, ?_⟩
            refine ⟨_, rfl, _, rfl, _, _, rfl, rfl, mulx_ok g.k4 (hrb.at ez1) (by decide), ?_⟩
            refine k2 _ _ (Same.refl _) ⟨_, ?_, rfl⟩
            rw [List.getElem?_map, ez1]
            rfl
          · intro H5 l s5 eD2 hpl
            have el := ints_list (by rw [List.length_map, List.length_map]) hpl
            subst el
            refine ⟨D2, _, rfl, .inl ⟨.inl (.inl eD2), fun t nt => ?_⟩⟩
            exact kc _ _ (s5.trans (same_upd nt)) ⟨_, eg, t, rfl, .inl (.inl upd_same)⟩
        · intro H4 l s4 eD hpl
          refine ⟨D1, l, rfl, .inl ⟨.inl (.inl eD), fun d4t nt => ?_⟩⟩
          have sV := s4.trans (same_upd (o := .tup l) nt)
          have d4 : TRows K (upd H4 d4t (.tup l)) (.ref d4t) (scaleM kk ma) := ⟨d4t, l, rfl, .inl (.inl upd_same), L2.Paired.mapP (paired_at (m := scaleM kk ma) (by rw [scaleM_len]; omega) hpl) fun _ _ => TRow.same (same_upd nt)⟩
          have F4 := Fx.same sV F3b
          have eRa := sV _ _ eR
          have hdsa := L2.Paired.mapP hds fun _ _ => TRows.same sV
          clear eR hds
          generalize upd H4 d4t (.tup l) = Hc at d4 F4 eRa hdsa ⊢
          refine ⟨R, _, _, rfl, rfl, eRa, small1000 (by simp), ?_⟩
          obtain ⟨F4b, eR, hds⟩ := push_due hpR F4 eRa hdsa d4
          clear eRa hdsa
          generalize upd Hc R (.lst ((([.ref d1t] ++ [.ref d2t]) ++ [.ref d3t]) ++ [.ref d4t])) = He at F4b eR hds ⊢
          obtain ⟨qa, wsa, ea, hqa, hpa⟩ := id F4b.ta
          obtain ⟨qb, wsb, eb, hqb, hpb⟩ := id F4b.tb
          have lwa := Paired.length hpa
          have lwb := Paired.length hpb
          subst ea eb
          refine ⟨_, rfl, .inl ⟨rfl, _, .inl (.inl eR)⟩, ?_⟩
          refine ⟨_, rfl, _, rfl, ?_⟩
          refine catA hqa hqb (by omega) fun p3 H6 s6 t6 => ?_
          have d5 : TRows K H6 (.ref p3) (ma ++ mb) := ⟨p3, _, rfl, t6, paired_app (L2.Paired.mapP hpa fun _ _ => TRow.same s6) (L2.Paired.mapP hpb fun _ _ => TRow.same s6)⟩
          have F5 := Fx.same s6 F4b
          have eRa := s6 _ _ eR
          have hdsa := L2.Paired.mapP hds fun _ _ => TRows.same s6
          refine ⟨R, _, _, rfl, rfl, eRa, small1000 (by simp), ?_⟩
          obtain ⟨F5b, eR5, hds5⟩ := push_due hpR F5 eRa hdsa d5
          exact ⟨⟨a0, p, hh, ww, oo, _, _, vc, x, y, z, kk, ma, mb, mc, R, _, rfl, F5b, g, eR5, hds5⟩, q⟩

end
end K01
namespace K01
open PySem PySem.Spec PyProof.Rows L2 Gm
open C8 (Cal Met Mak pe_c pe_mt pe_mt0 pe_mk)
section
variable {P : Program} {w : World} {K : PySem.W.Frag} {mg : Str → Option Value} {base : Heap}
theorem ok_law (T : Top K mg) (hN : base.NoSeer) (hT : P.given.tree = none) : FnOk P w K mg base CX0 8 T.a_law T.d_law ["script"] (sp_law K) := by
  refine T.F_law.ok sc_law (fun vs H Q E h => ?_) (fun cdv A outer s H vs Q E hr h => ?_)
  · obtain ⟨a, ns, rfl, _⟩ := h
    rfl
  · obtain ⟨a0, ns, rfl, hsc, hl, hb, q⟩ := h
    refine ⟨_, ((pss_cons (ps_set (i := 1) sc_law.nd rfl (by first | exact .inl rfl | exact .inr rfl) (pe_c (cal_law_state T hN hT) hr (by decide) (by rfl) (pa_cons (pv 0) pa_nil)))
      (pss_cons (ps_asg (pe_tup (pa_cons (pe_c (cal_law_take T hN hT) hr (by decide) (by rfl) (pa_cons (pv 1) (pa_cons pe_int pa_nil))) (pa_cons (pe_c (cal_law_take T hN hT) hr (by decide) (by rfl) (pa_cons (pv 1) (pa_cons pe_int pa_nil))) (pa_cons (pe_c (cal_law_take T hN hT) hr (by decide) (by rfl) (pa_cons (pv 1) (pa_cons pe_int pa_nil))) pa_nil)))) (pg_tup rfl (pgs_cons (pg_name (i := 2) sc_law.nd rfl (by first | exact .inl rfl | exact .inr rfl)) (pgs_cons (pg_name (i := 3) sc_law.nd rfl (by first | exact .inl rfl | exact .inr rfl)) (pgs_cons (pg_name (i := 4) sc_law.nd rfl (by first | exact .inl rfl | exact .inr rfl)) pgs_nil)))))
      (pss_cons (ps_asg (pe_tup (pa_cons (pe_c (cal_law_rows T hN hT) hr (by decide) (by rfl) (pa_cons (pv 1) (pa_cons (pv 2) (pa_cons (pv 3) (pa_cons pe_int pa_nil))))) (pa_cons (pe_c (cal_law_rows T hN hT) hr (by decide) (by rfl) (pa_cons (pv 1) (pa_cons (pv 2) (pa_cons (pv 3) (pa_cons pe_int pa_nil))))) pa_nil))) (pg_tup rfl (pgs_cons (pg_name (i := 5) sc_law.nd rfl (by first | exact .inl rfl | exact .inr rfl)) (pgs_cons (pg_name (i := 6) sc_law.nd rfl (by first | exact .inl rfl | exact .inr rfl)) pgs_nil))))
      (pss_cons (ps_set (i := 7) sc_law.nd rfl (by first | exact .inl rfl | exact .inr rfl) (pe_c (cal_law_rows T hN hT) hr (by decide) (by rfl) (pa_cons (pv 1) (pa_cons (pv 3) (pa_cons (pv 4) (pa_cons pe_int pa_nil))))))
      (pss_cons (ps_par3 (i := 8) (j := 9) (l := 10) (by rfl) sc_law.nd rfl rfl rfl (by decide) (by decide) (by decide) rfl rfl rfl (pa_cons (pe_mk (mak_Grid T hN hT) hr (by decide) (by rfl) (pa_cons (pv 5) (pa_cons (pv 3) pa_nil))) (pa_cons (pe_mk (mak_Grid T hN hT) hr (by decide) (by rfl) (pa_cons (pe_lc (own := [("row", 16)]) (g := (gName 16)) (by rfl) sc_law.nd (piS K rfl (pv 6)) ((by show BlkOk ["script", "state", "height", "width", "other", "a", "b", "c", "x", "y", "z", "k", "due", "told", "at", "turned", "row", "line", "both", "i", "p", "q", "j", "given"] (defScope s_law) _ _; exact blkOk_by (by decide +kernel))) (fun _ _ _ _ _ => (pg_name (i := 16) sc_law.nd rfl (by first | exact .inl rfl | exact .inr rfl))) (fun _ _ _ _ _ => pts_nil) (fun _ _ _ _ _ => (pe_callTy (listK K rfl) (by rfl) T.z_list (by decide +kernel) (pa_cons (pv 16) pa_nil)))) (pa_cons (pv 3) pa_nil))) (pa_cons (pe_mk (mak_Grid T hN hT) hr (by decide) (by rfl) (pa_cons (pv 7) (pa_cons (pv 4) pa_nil))) pa_nil))) (by rfl))
      (pss_cons (ps_set (i := 11) sc_law.nd rfl (by first | exact .inl rfl | exact .inr rfl) (pe_op op_sub (pe_c (cal_law_take T hN hT) hr (by decide) (by rfl) (pa_cons (pv 1) (pa_cons pe_int pa_nil))) pe_int))
      (ch6 T hN hT hr)))))))), ?_⟩
    refine ⟨_, rfl, a0, ns, rfl, hsc, hl, fun p H1 s1 np st1 => ?_⟩
    -- height, width, other
    refine ⟨_, rfl, p, 4, rfl, st1, by decide, by decide, fun hh H2 hh4 o2 st2 => ?_⟩
    refine ⟨_, rfl, p, 5, rfl, st2, by decide, by decide, fun ww H3 hw5 o3 st3 => ?_⟩
    refine ⟨_, rfl, p, 4, rfl, st3, by decide, by decide, fun oo H4 ho4 o4 st4 => ?_⟩
    refine ⟨by show 3 ≤ sizeLine; decide, fun t nt => ?_⟩
    refine ⟨t, _, rfl, .inl (.inl upd_same), rfl, _, _, rfl, _, _, rfl, _, _, rfl, rfl, ?_⟩
    have st5 := StAt.same (same_upd (o := .tup [.int hh, .int ww, .int oo]) nt) st4
    generalize upd H4 t (.tup [.int hh, .int ww, .int oo]) = H5 at st5 ⊢
    -- a, b
    refine ⟨_, rfl, _, rfl, _, rfl, p, hh, ww, 9, rfl, st5, by omega, by omega, by decide, fun va ma H6 o6 st6 hva la wa ba => ?_⟩
    refine ⟨_, rfl, _, rfl, _, rfl, p, hh, ww, 9, rfl, st6, by omega, by omega, by decide, fun vb mb H7 o7 st7 hvb lb wb bb => ?_⟩
    have hva7 := trowsP st6 o7 hva
    refine ⟨by show 2 ≤ sizeLine; decide, fun t2 nt2 => ?_⟩
    refine g_pair nt2 ?_
    have s8 := same_upd (o := .tup [va, vb]) nt2
    have st8 := StAt.same s8 st7
    have hva8 := TRows.same s8 hva7
    have hvb8 := TRows.same s8 hvb
    generalize upd H7 t2 (.tup [va, vb]) = H8 at st8 hva8 hvb8 ⊢
    -- c
    refine ⟨_, rfl, _, rfl, _, rfl, p, ww, oo, 9, rfl, st8, by omega, by omega, by decide, fun vc mc H9 o9 st9 hvc lc wc bc => ?_⟩
    have hva9 := trowsP st8 o9 hva8
    have hvb9 := trowsP st8 o9 hvb8
    have Ba := smallB (B := 5) ba (by decide)
    have Bb := smallB (B := 5) bb (by decide)
    have Bc := smallB (B := 5) bc (by decide)
    -- x, y, z
    refine ⟨_, rfl, _, rfl, ?_⟩
    intro x xd nx nxd nex
    refine make_grid2 (C := T.C_Grid) nx nxd hva9.rows (by omega) (by omega) wa fun H10 s10 G10 => ⟨rfl, ?_⟩
    obtain ⟨pb, wsb, eb, hsb, hpb⟩ := id (TRows.same s10 hvb9)
    have lwb := Paired.length hpb
    refine ⟨_, rfl, pb, wsb, eb, .inr hsb, fun J G0 W hG D hD => ?_⟩
    refine lc_all W hD (by omega) (fun H4 s4 => hG H4 fun b _ o => s4 b o) (fun i v H4 => ∃ p, v = V.ref p ∧ p ≠ D ∧ H4 p = some (.lst ((mb.getD i []).map V.int))) lists_mono ?_ gm_name ?_
    · rintro i zz H11 H11' acc Ko hi s11 eD ⟨rfl, ex⟩ kc
      obtain ⟨r, er, c, rfl, hc⟩ := Paired.getR hpb ex
      refine ⟨rfl, ?_⟩
      refine ⟨_, rfl, c, _, rfl, .inr (Same.seqT s11 hc), fun l nl => ?_⟩
      refine kc _ _ (same_upd nl) ⟨l, rfl, ?_, ?_⟩
      · rintro rfl
        rw [eD] at nl
        cases nl
      · rw [upd_same, List.getD_eq_getElem?_getD, er]
        rfl
    · intro H11 l11 s11 eD hpl
      have hrows := lists_rows (K := K) (m := mb) (by omega) eD hpl
      refine ⟨_, rfl, ?_⟩
      intro y yd ny nyd ney
      refine make_grid2 (C := T.C_Grid) ny nyd hrows (by omega) (by omega) wb fun H12 s12 G12 => ⟨rfl, ?_⟩
      have s912 := s10.trans (s11.trans s12)
      refine ⟨_, rfl, _, rfl, ?_⟩
      intro z zd nz nzd nez
      refine make_grid2 (C := T.C_Grid) nz nzd (TRows.same s912 hvc).rows (by omega) (by omega) wc fun H13 s13 G13 => ⟨rfl, ?_⟩
      refine ⟨_, _, _, rfl, ?_⟩
      have s913 := s912.trans s13
      have st13 := StAt.same s913 st9
      have Gx13 := IsGrid.same (s11.trans (s12.trans s13)) G10
      have Gy13 := IsGrid.same s13 G12
      have hva13 := TRows.same s913 hva9
      have hvb13 := TRows.same s913 hvb9
      have hvc13 := TRows.same s913 hvc
      -- k
      refine ⟨_, rfl, p, 9, rfl, st13, by decide, by decide, fun kr H14 hk9 o14 st14 => ⟨_, _, rfl, rfl, ?_⟩⟩
      have F0 : Fx K T.C_Grid H14 (.ref x) (.ref y) (.ref z) va vb vc p ma mb mc ww oo := ⟨gridP st13 o14 Gx13, gridP st13 o14 Gy13, gridP st13 o14 G13, trowsP st13 o14 hva13, trowsP st13 o14 hvb13, trowsP st13 o14 hvc13, st14⟩
      refine ⟨⟨a0, p, hh, ww, oo, va, vb, vc, _, _, _, _, ma, mb, mc, rfl, F0, ⟨by omega, by omega, by omega, la, lb, lc, wa, wb, wc, Ba, Bb, Bc, ?_⟩⟩, q⟩
      show ((kr : Int) - 4).natAbs < 8
      omega

end
end K01
namespace K01
open PySem PySem.Spec PyProof.Rows L2 Gm
theorem all_mk {l : PySem.W.OpenLaw} {w : World} {K : PySem.W.Frag} {h : Heap} {mg : Str → Option Value} {fa C_Grid X_Malformed f1 f2 f3 f4 f5 f6 f7 f8 f9 f10 f11 f12 f13 f14 f15 f16 f17 f18 f19 f20 f21 f22 f23 f24 f25 f26 f27 f28 f29 : Addr} (X : K.In h) (G : h.Ns mainGlobals mg) (hfa : mg "law" = some (.ref fa)) (hT : l.prog.given.tree = none)
    {od1 an1 od2 an2 od3 an3 od4 an4 od5 an5 od6 an6 od7 an7 od8 an8 od9 an9 od10 an10 od11 an11 od12 an12 od13 an13 od14 an14 od15 an15 od16 an16 od17 an17 od18 an18 od19 an19 od20 an20 od21 an21 od22 an22 od23 an23 od24 an24 od25 an25 od26 an26 od27 an27 od28 an28 od29 an29 : Option Addr} {sl1 sl2 sl3 sl4 sl5 sl6 sl7 sl8 sl9 sl10 sl11 sl12 sl13 sl14 sl15 sl16 sl17 sl18 sl19 sl20 sl21 sl22 sl23 sl24 sl25 sl26 sl27 sl28 sl29 : Array (Option Value)} {oc1 kV1 dc1 pm1 cd1 ct1 oc2 kV2 dc2 pm2 cd2 ct2 oc3 kV3 dc3 pm3 cd3 ct3 oc4 kV4 dc4 pm4 cd4 ct4 oc5 kV5 dc5 pm5 cd5 ct5 oc6 kV6 dc6 pm6 cd6 ct6 oc7 kV7 dc7 pm7 cd7 ct7 oc8 kV8 dc8 pm8 cd8 ct8 oc9 kV9 dc9 pm9 cd9 ct9 oc10 kV10 dc10 pm10 cd10 ct10 oc11 kV11 dc11 pm11 cd11 ct11 oc12 kV12 dc12 pm12 cd12 ct12 oc13 kV13 dc13 pm13 cd13 ct13 oc14 kV14 dc14 pm14 cd14 ct14 oc15 kV15 dc15 pm15 cd15 ct15 oc16 kV16 dc16 pm16 cd16 ct16 oc17 kV17 dc17 pm17 cd17 ct17 oc18 kV18 dc18 pm18 cd18 ct18 oc19 kV19 dc19 pm19 cd19 ct19 oc20 kV20 dc20 pm20 cd20 ct20 oc21 kV21 dc21 pm21 cd21 ct21 oc22 kV22 dc22 pm22 cd22 ct22 oc23 kV23 dc23 pm23 cd23 ct23 oc24 kV24 dc24 pm24 cd24 ct24 oc25 kV25 dc25 pm25 cd25 ct25 oc26 kV26 dc26 pm26 cd26 ct26 oc27 kV27 dc27 pm27 cd27 ct27 oc28 kV28 dc28 pm28 cd28 ct28 oc29 kV29 dc29 pm29 cd29 ct29 : Value}
    {t3 : Addr} {tc3 : Value} {td3 : Option Addr} {tn3 : Nat} {ts3 : Array (Option Value)}
    (A1 : PySem.W.nsIn K mainGlobals "is_integer" = some (some (.ref f1)))
    (L1 : K.lookup f1 = some ⟨oc1, od1, .func (PySem.W.fnOf "is_integer" "is_integer" (defArgs s_is_integer) (defBody s_is_integer) (defScope s_is_integer) .none kV1 dc1 pm1 an1 cd1 ct1), sl1⟩)
    (D1 : PySem.W.codeIn K cd1 "is_integer" = true)
    (K1 : PySem.W.keepIn K (.ref f1) = true)
    (A2 : PySem.W.nsIn K mainGlobals "dot" = some (some (.ref f2)))
    (L2 : K.lookup f2 = some ⟨oc2, od2, .func (PySem.W.fnOf "dot" "dot" (defArgs s_dot) (defBody s_dot) (defScope s_dot) .none kV2 dc2 pm2 an2 cd2 ct2), sl2⟩)
    (D2 : PySem.W.codeIn K cd2 "dot" = true)
    (K2 : PySem.W.keepIn K (.ref f2) = true)
    (A3 : PySem.W.findIn K (.ref C_Grid) "__init__" = some (some (.ref f3)))
    (I3 : PySem.W.isFn K (.ref f3) = true)
    (L3 : K.lookup f3 = some ⟨oc3, od3, .func (PySem.W.fnOf "__init__" "Grid.__init__" (defArgs s_Grid_init) (defBody s_Grid_init) (defScope s_Grid_init) (.ref t3) kV3 dc3 pm3 an3 cd3 ct3), sl3⟩)
    (T3 : K.lookup t3 = some ⟨tc3, td3, .seq [Value.none].toArray tn3, ts3⟩)
    (D3 : PySem.W.codeIn K cd3 "Grid.__init__" = true)
    (K3 : PySem.W.keepIn K (.ref f3) = true)
    (A4 : PySem.W.findIn K (.ref C_Grid) "__eq__" = some (some (.ref f4)))
    (I4 : PySem.W.isFn K (.ref f4) = true)
    (L4 : K.lookup f4 = some ⟨oc4, od4, .func (PySem.W.fnOf "__eq__" "Grid.__eq__" (defArgs s_Grid_eq) (defBody s_Grid_eq) (defScope s_Grid_eq) .none kV4 dc4 pm4 an4 cd4 ct4), sl4⟩)
    (D4 : PySem.W.codeIn K cd4 "Grid.__eq__" = true)
    (K4 : PySem.W.keepIn K (.ref f4) = true)
    (A5 : PySem.W.findIn K (.ref C_Grid) "__len__" = some (some (.ref f5)))
    (I5 : PySem.W.isFn K (.ref f5) = true)
    (L5 : K.lookup f5 = some ⟨oc5, od5, .func (PySem.W.fnOf "__len__" "Grid.__len__" (defArgs s_Grid_len) (defBody s_Grid_len) (defScope s_Grid_len) .none kV5 dc5 pm5 an5 cd5 ct5), sl5⟩)
    (D5 : PySem.W.codeIn K cd5 "Grid.__len__" = true)
    (K5 : PySem.W.keepIn K (.ref f5) = true)
    (A6 : PySem.W.findIn K (.ref C_Grid) "__iter__" = some (some (.ref f6)))
    (I6 : PySem.W.isFn K (.ref f6) = true)
    (L6 : K.lookup f6 = some ⟨oc6, od6, .func (PySem.W.fnOf "__iter__" "Grid.__iter__" (defArgs s_Grid_iter) (defBody s_Grid_iter) (defScope s_Grid_iter) .none kV6 dc6 pm6 an6 cd6 ct6), sl6⟩)
    (D6 : PySem.W.codeIn K cd6 "Grid.__iter__" = true)
    (K6 : PySem.W.keepIn K (.ref f6) = true)
    (A7 : PySem.W.findIn K (.ref C_Grid) "__add__" = some (some (.ref f7)))
    (I7 : PySem.W.isFn K (.ref f7) = true)
    (L7 : K.lookup f7 = some ⟨oc7, od7, .func (PySem.W.fnOf "__add__" "Grid.__add__" (defArgs s_Grid_add) (defBody s_Grid_add) (defScope s_Grid_add) .none kV7 dc7 pm7 an7 cd7 ct7), sl7⟩)
    (D7 : PySem.W.codeIn K cd7 "Grid.__add__" = true)
    (K7 : PySem.W.keepIn K (.ref f7) = true)
    (A8 : PySem.W.findIn K (.ref C_Grid) "__sub__" = some (some (.ref f8)))
    (I8 : PySem.W.isFn K (.ref f8) = true)
    (L8 : K.lookup f8 = some ⟨oc8, od8, .func (PySem.W.fnOf "__sub__" "Grid.__sub__" (defArgs s_Grid_sub) (defBody s_Grid_sub) (defScope s_Grid_sub) .none kV8 dc8 pm8 an8 cd8 ct8), sl8⟩)
    (D8 : PySem.W.codeIn K cd8 "Grid.__sub__" = true)
    (K8 : PySem.W.keepIn K (.ref f8) = true)
    (A9 : PySem.W.findIn K (.ref C_Grid) "__mul__" = some (some (.ref f9)))
    (I9 : PySem.W.isFn K (.ref f9) = true)
    (L9 : K.lookup f9 = some ⟨oc9, od9, .func (PySem.W.fnOf "__mul__" "Grid.__mul__" (defArgs s_Grid_mul) (defBody s_Grid_mul) (defScope s_Grid_mul) .none kV9 dc9 pm9 an9 cd9 ct9), sl9⟩)
    (D9 : PySem.W.codeIn K cd9 "Grid.__mul__" = true)
    (K9 : PySem.W.keepIn K (.ref f9) = true)
    (A10 : PySem.W.findIn K (.ref C_Grid) "__neg__" = some (some (.ref f10)))
    (I10 : PySem.W.isFn K (.ref f10) = true)
    (L10 : K.lookup f10 = some ⟨oc10, od10, .func (PySem.W.fnOf "__neg__" "Grid.__neg__" (defArgs s_Grid_neg) (defBody s_Grid_neg) (defScope s_Grid_neg) .none kV10 dc10 pm10 an10 cd10 ct10), sl10⟩)
    (D10 : PySem.W.codeIn K cd10 "Grid.__neg__" = true)
    (K10 : PySem.W.keepIn K (.ref f10) = true)
    (A11 : PySem.W.findIn K (.ref C_Grid) "scaled" = some (some (.ref f11)))
    (I11 : PySem.W.isFn K (.ref f11) = true)
    (L11 : K.lookup f11 = some ⟨oc11, od11, .func (PySem.W.fnOf "scaled" "Grid.scaled" (defArgs s_Grid_scaled) (defBody s_Grid_scaled) (defScope s_Grid_scaled) .none kV11 dc11 pm11 an11 cd11 ct11), sl11⟩)
    (D11 : PySem.W.codeIn K cd11 "Grid.scaled" = true)
    (K11 : PySem.W.keepIn K (.ref f11) = true)
    (A12 : PySem.W.findIn K (.ref C_Grid) "transposed" = some (some (.ref f12)))
    (I12 : PySem.W.isFn K (.ref f12) = true)
    (L12 : K.lookup f12 = some ⟨oc12, od12, .func (PySem.W.fnOf "transposed" "Grid.transposed" (defArgs s_Grid_transposed) (defBody s_Grid_transposed) (defScope s_Grid_transposed) .none kV12 dc12 pm12 an12 cd12 ct12), sl12⟩)
    (D12 : PySem.W.codeIn K cd12 "Grid.transposed" = true)
    (K12 : PySem.W.keepIn K (.ref f12) = true)
    (A13 : PySem.W.findIn K (.ref C_Grid) "times" = some (some (.ref f13)))
    (I13 : PySem.W.isFn K (.ref f13) = true)
    (L13 : K.lookup f13 = some ⟨oc13, od13, .func (PySem.W.fnOf "times" "Grid.times" (defArgs s_Grid_times) (defBody s_Grid_times) (defScope s_Grid_times) .none kV13 dc13 pm13 an13 cd13 ct13), sl13⟩)
    (D13 : PySem.W.codeIn K cd13 "Grid.times" = true)
    (K13 : PySem.W.keepIn K (.ref f13) = true)
    (A14 : PySem.W.findIn K (.ref C_Grid) "before" = some (some (.ref f14)))
    (I14 : PySem.W.isFn K (.ref f14) = true)
    (L14 : K.lookup f14 = some ⟨oc14, od14, .func (PySem.W.fnOf "before" "Grid.before" (defArgs s_Grid_before) (defBody s_Grid_before) (defScope s_Grid_before) .none kV14 dc14 pm14 an14 cd14 ct14), sl14⟩)
    (D14 : PySem.W.codeIn K cd14 "Grid.before" = true)
    (K14 : PySem.W.keepIn K (.ref f14) = true)
    (A15 : PySem.W.findIn K (.ref C_Grid) "stacked" = some (some (.ref f15)))
    (I15 : PySem.W.isFn K (.ref f15) = true)
    (L15 : K.lookup f15 = some ⟨oc15, od15, .func (PySem.W.fnOf "stacked" "Grid.stacked" (defArgs s_Grid_stacked) (defBody s_Grid_stacked) (defScope s_Grid_stacked) .none kV15 dc15 pm15 an15 cd15 ct15), sl15⟩)
    (D15 : PySem.W.codeIn K cd15 "Grid.stacked" = true)
    (K15 : PySem.W.keepIn K (.ref f15) = true)
    (A16 : PySem.W.findIn K (.ref C_Grid) "is_square" = some (some (.ref f16)))
    (I16 : PySem.W.isFn K (.ref f16) = true)
    (L16 : K.lookup f16 = some ⟨oc16, od16, .func (PySem.W.fnOf "is_square" "Grid.is_square" (defArgs s_Grid_is_square) (defBody s_Grid_is_square) (defScope s_Grid_is_square) .none kV16 dc16 pm16 an16 cd16 ct16), sl16⟩)
    (D16 : PySem.W.codeIn K cd16 "Grid.is_square" = true)
    (K16 : PySem.W.keepIn K (.ref f16) = true)
    (A17 : PySem.W.nsIn K mainGlobals "checked_rows" = some (some (.ref f17)))
    (L17 : K.lookup f17 = some ⟨oc17, od17, .func (PySem.W.fnOf "checked_rows" "checked_rows" (defArgs s_checked_rows) (defBody s_checked_rows) (defScope s_checked_rows) .none kV17 dc17 pm17 an17 cd17 ct17), sl17⟩)
    (D17 : PySem.W.codeIn K cd17 "checked_rows" = true)
    (K17 : PySem.W.keepIn K (.ref f17) = true)
    (A18 : PySem.W.nsIn K mainGlobals "checked_width" = some (some (.ref f18)))
    (L18 : K.lookup f18 = some ⟨oc18, od18, .func (PySem.W.fnOf "checked_width" "checked_width" (defArgs s_checked_width) (defBody s_checked_width) (defScope s_checked_width) .none kV18 dc18 pm18 an18 cd18 ct18), sl18⟩)
    (D18 : PySem.W.codeIn K cd18 "checked_width" = true)
    (K18 : PySem.W.keepIn K (.ref f18) = true)
    (A19 : PySem.W.nsIn K mainGlobals "check_same_size" = some (some (.ref f19)))
    (L19 : K.lookup f19 = some ⟨oc19, od19, .func (PySem.W.fnOf "check_same_size" "check_same_size" (defArgs s_check_same_size) (defBody s_check_same_size) (defScope s_check_same_size) .none kV19 dc19 pm19 an19 cd19 ct19), sl19⟩)
    (D19 : PySem.W.codeIn K cd19 "check_same_size" = true)
    (K19 : PySem.W.keepIn K (.ref f19) = true)
    (A20 : PySem.W.nsIn K mainGlobals "unit" = some (some (.ref f20)))
    (L20 : K.lookup f20 = some ⟨oc20, od20, .func (PySem.W.fnOf "unit" "unit" (defArgs s_unit) (defBody s_unit) (defScope s_unit) .none kV20 dc20 pm20 an20 cd20 ct20), sl20⟩)
    (D20 : PySem.W.codeIn K cd20 "unit" = true)
    (K20 : PySem.W.keepIn K (.ref f20) = true)
    (A21 : PySem.W.nsIn K mainGlobals "diagonal" = some (some (.ref f21)))
    (L21 : K.lookup f21 = some ⟨oc21, od21, .func (PySem.W.fnOf "diagonal" "diagonal" (defArgs s_diagonal) (defBody s_diagonal) (defScope s_diagonal) .none kV21 dc21 pm21 an21 cd21 ct21), sl21⟩)
    (D21 : PySem.W.codeIn K cd21 "diagonal" = true)
    (K21 : PySem.W.keepIn K (.ref f21) = true)
    (A22 : PySem.W.nsIn K mainGlobals "blocks" = some (some (.ref f22)))
    (L22 : K.lookup f22 = some ⟨oc22, od22, .func (PySem.W.fnOf "blocks" "blocks" (defArgs s_blocks) (defBody s_blocks) (defScope s_blocks) .none kV22 dc22 pm22 an22 cd22 ct22), sl22⟩)
    (D22 : PySem.W.codeIn K cd22 "blocks" = true)
    (K22 : PySem.W.keepIn K (.ref f22) = true)
    (A23 : PySem.W.nsIn K mainGlobals "_law_state" = some (some (.ref f23)))
    (L23 : K.lookup f23 = some ⟨oc23, od23, .func (PySem.W.fnOf "_law_state" "_law_state" (defArgs s_law_state) (defBody s_law_state) (defScope s_law_state) .none kV23 dc23 pm23 an23 cd23 ct23), sl23⟩)
    (D23 : PySem.W.codeIn K cd23 "_law_state" = true)
    (K23 : PySem.W.keepIn K (.ref f23) = true)
    (A24 : PySem.W.nsIn K mainGlobals "_law_take" = some (some (.ref f24)))
    (L24 : K.lookup f24 = some ⟨oc24, od24, .func (PySem.W.fnOf "_law_take" "_law_take" (defArgs s_law_take) (defBody s_law_take) (defScope s_law_take) .none kV24 dc24 pm24 an24 cd24 ct24), sl24⟩)
    (D24 : PySem.W.codeIn K cd24 "_law_take" = true)
    (K24 : PySem.W.keepIn K (.ref f24) = true)
    (A25 : PySem.W.nsIn K mainGlobals "_law_rows" = some (some (.ref f25)))
    (L25 : K.lookup f25 = some ⟨oc25, od25, .func (PySem.W.fnOf "_law_rows" "_law_rows" (defArgs s_law_rows) (defBody s_law_rows) (defScope s_law_rows) .none kV25 dc25 pm25 an25 cd25 ct25), sl25⟩)
    (D25 : PySem.W.codeIn K cd25 "_law_rows" = true)
    (K25 : PySem.W.keepIn K (.ref f25) = true)
    (A26 : PySem.W.nsIn K mainGlobals "_law_product" = some (some (.ref f26)))
    (L26 : K.lookup f26 = some ⟨oc26, od26, .func (PySem.W.fnOf "_law_product" "_law_product" (defArgs s_law_product) (defBody s_law_product) (defScope s_law_product) .none kV26 dc26 pm26 an26 cd26 ct26), sl26⟩)
    (D26 : PySem.W.codeIn K cd26 "_law_product" = true)
    (K26 : PySem.W.keepIn K (.ref f26) = true)
    (A27 : PySem.W.nsIn K mainGlobals "_law_is_rows" = some (some (.ref f27)))
    (L27 : K.lookup f27 = some ⟨oc27, od27, .func (PySem.W.fnOf "_law_is_rows" "_law_is_rows" (defArgs s_law_is_rows) (defBody s_law_is_rows) (defScope s_law_is_rows) .none kV27 dc27 pm27 an27 cd27 ct27), sl27⟩)
    (D27 : PySem.W.codeIn K cd27 "_law_is_rows" = true)
    (K27 : PySem.W.keepIn K (.ref f27) = true)
    (A28 : PySem.W.nsIn K mainGlobals "_law_malformed" = some (some (.ref f28)))
    (L28 : K.lookup f28 = some ⟨oc28, od28, .func (PySem.W.fnOf "_law_malformed" "_law_malformed" (defArgs s_law_malformed) (defBody s_law_malformed) (defScope s_law_malformed) .none kV28 dc28 pm28 an28 cd28 ct28), sl28⟩)
    (D28 : PySem.W.codeIn K cd28 "_law_malformed" = true)
    (K28 : PySem.W.keepIn K (.ref f28) = true)
    (A29 : PySem.W.nsIn K mainGlobals "law" = some (some (.ref f29)))
    (L29 : K.lookup f29 = some ⟨oc29, od29, .func (PySem.W.fnOf "law" "law" (defArgs s_law) (defBody s_law) (defScope s_law) .none kV29 dc29 pm29 an29 cd29 ct29), sl29⟩)
    (D29 : PySem.W.codeIn K cd29 "law" = true)
    (K29 : PySem.W.keepIn K (.ref f29) = true)
    (aC_Grid : PySem.W.nsIn K mainGlobals "Grid" = some (some (.ref C_Grid)))
    (pg_Grid : PySem.W.plainGet K C_Grid Str.empty = true)
    (hd_Grid : PySem.W.hasDictIn K C_Grid = true)
    (po_Grid : PySem.W.plainOver K C_Grid = true)
    (sa_Grid : PySem.W.findIn K (.ref C_Grid) "__setattr__" = some (some (.builtin "object.__setattr__")))
    (mk_Grid : PySem.W.makesIn K C_Grid = true)
    (kc_Grid : PySem.W.keepIn K (.ref C_Grid) = true)
    (nr_Grid : PySem.W.findIn K (.ref C_Grid) "rows" = some none)
    (nw_Grid : PySem.W.findIn K (.ref C_Grid) "width" = some none)
    (sf_Grid : PySem.W.selfFirst K C_Grid = true)
    (yc_Grid : PySem.W.findIn K (.ref C_Grid) "__class__" = some (some (.builtin "object.__class__")))
    (yg_Grid : PySem.W.specialIn K (.builtin "object.__class__") "__get__" = some (some (.builtin "getset_descriptor.__get__")))
    (yt_Grid : PySem.W.takesIn K (.builtin "object.__class__") = some true)
    (ym_Grid : PySem.W.mroIn K C_Grid (.type "object") = some true)
    (yt2_Grid : PySem.W.typeIn K (.ref C_Grid) = some (.type "type"))
    (yi_Grid : PySem.W.isClsIn K C_Grid = true)
    (yn_Grid : PySem.W.findIn K (.ref C_Grid) "__ne__" = some (some (.builtin "object.__ne__")))
    (z_ValueError : PySem.W.nsIn K mainGlobals "ValueError" = some none)
    (z_abs : PySem.W.nsIn K mainGlobals "abs" = some none)
    (z_all : PySem.W.nsIn K mainGlobals "all" = some none)
    (z_bool : PySem.W.nsIn K mainGlobals "bool" = some none)
    (z_int : PySem.W.nsIn K mainGlobals "int" = some none)
    (z_isinstance : PySem.W.nsIn K mainGlobals "isinstance" = some none)
    (z_iter : PySem.W.nsIn K mainGlobals "iter" = some none)
    (z_len : PySem.W.nsIn K mainGlobals "len" = some none)
    (z_list : PySem.W.nsIn K mainGlobals "list" = some none)
    (z_range : PySem.W.nsIn K mainGlobals "range" = some none)
    (z_sum : PySem.W.nsIn K mainGlobals "sum" = some none)
    (z_tuple : PySem.W.nsIn K mainGlobals "tuple" = some none)
    (z_zip : PySem.W.nsIn K mainGlobals "zip" = some none)
    (aX_Malformed : PySem.W.nsIn K mainGlobals "Malformed" = some (some (.ref X_Malformed)))
    (xX_Malformed : PySem.W.excIn K X_Malformed [.type "ValueError", .type "Exception", .type "BaseException", .type "object"] "ValueError.__new__" = true)
    (kX_Malformed : PySem.W.keepIn K (.ref X_Malformed) = true)
    (bX_Malformed : PySem.W.subIn K (.ref X_Malformed) (.type "BaseException") = some true)
    (tX_Malformed : PySem.W.typeIn K (.ref X_Malformed) = some (.type "type"))
    (iX_Malformed : PySem.W.isClsIn K X_Malformed = true)
    (sX_Malformed : PySem.W.subIn K (.ref X_Malformed) (.ref X_Malformed) = some true)
    : ∃ fd : FuncData, (∀ (s : Shared) (v : Value), BindsTo s fd ⟨[v], []⟩ [("script", v)]) ∧ ∀ base : Heap, K.In base → base.Ns mainGlobals mg → base.NoSeer → FnOk l.prog w K mg base CX0 8 fa fd ["script"] (sp_law K) := by
  have e := hfa.symm.trans (PySem.W.mg_of X G A29)
  cases e
  have F1 := fun_mk (st := s_is_integer) L1 D1 K1
  have b1 := F1.binds (ps := ["value"]) fun _ _ _ _ _ _ us hl => match us, hl with | [_], _ => rfl
  have F2 := fun_mk (st := s_dot) L2 D2 K2
  have b2 := F2.binds (ps := ["a", "b"]) fun _ _ _ _ _ _ us hl => match us, hl with | [_, _], _ => rfl
  have F3 : FunD K "__init__" "Grid.__init__" (defArgs s_Grid_init) (defBody s_Grid_init) (defScope s_Grid_init) [.non] [] f3 _ := ⟨⟨oc3, od3, _, kV3, dc3, pm3, an3, cd3, ct3, sl3, rfl, L3, D3, .inr ⟨by simp, t3, _, [.none], tn3, rfl, T3, rfl, .cons rfl .nil⟩, .inl rfl⟩, K3⟩
  obtain ⟨ds3, vd3, b3⟩ := F3.binds1 (ps := ["self", "rows", "width"]) 3 1 (by simp) rfl fun _ _ _ _ _ _ _ us its hl hi => match us, hl, its, hi with | [_, _, _], _, [_], _ => ⟨_, rfl, rfl⟩
  obtain rfl : ds3 = [] := by cases vd3; rfl
  have F4 := fun_mk (st := s_Grid_eq) L4 D4 K4
  have b4 := F4.binds (ps := ["self", "other"]) fun _ _ _ _ _ _ us hl => match us, hl with | [_, _], _ => rfl
  have F5 := fun_mk (st := s_Grid_len) L5 D5 K5
  have b5 := F5.binds (ps := ["self"]) fun _ _ _ _ _ _ us hl => match us, hl with | [_], _ => rfl
  have F6 := fun_mk (st := s_Grid_iter) L6 D6 K6
  have b6 := F6.binds (ps := ["self"]) fun _ _ _ _ _ _ us hl => match us, hl with | [_], _ => rfl
  have F7 := fun_mk (st := s_Grid_add) L7 D7 K7
  have b7 := F7.binds (ps := ["self", "other"]) fun _ _ _ _ _ _ us hl => match us, hl with | [_, _], _ => rfl
  have F8 := fun_mk (st := s_Grid_sub) L8 D8 K8
  have b8 := F8.binds (ps := ["self", "other"]) fun _ _ _ _ _ _ us hl => match us, hl with | [_, _], _ => rfl
  have F9 := fun_mk (st := s_Grid_mul) L9 D9 K9
  have b9 := F9.binds (ps := ["self", "other"]) fun _ _ _ _ _ _ us hl => match us, hl with | [_, _], _ => rfl
  have F10 := fun_mk (st := s_Grid_neg) L10 D10 K10
  have b10 := F10.binds (ps := ["self"]) fun _ _ _ _ _ _ us hl => match us, hl with | [_], _ => rfl
  have F11 := fun_mk (st := s_Grid_scaled) L11 D11 K11
  have b11 := F11.binds (ps := ["self", "k"]) fun _ _ _ _ _ _ us hl => match us, hl with | [_, _], _ => rfl
  have F12 := fun_mk (st := s_Grid_transposed) L12 D12 K12
  have b12 := F12.binds (ps := ["self"]) fun _ _ _ _ _ _ us hl => match us, hl with | [_], _ => rfl
  have F13 := fun_mk (st := s_Grid_times) L13 D13 K13
  have b13 := F13.binds (ps := ["self", "row"]) fun _ _ _ _ _ _ us hl => match us, hl with | [_, _], _ => rfl
  have F14 := fun_mk (st := s_Grid_before) L14 D14 K14
  have b14 := F14.binds (ps := ["self", "row"]) fun _ _ _ _ _ _ us hl => match us, hl with | [_, _], _ => rfl
  have F15 := fun_mk (st := s_Grid_stacked) L15 D15 K15
  have b15 := F15.binds (ps := ["self", "b"]) fun _ _ _ _ _ _ us hl => match us, hl with | [_, _], _ => rfl
  have F16 := fun_mk (st := s_Grid_is_square) L16 D16 K16
  have b16 := F16.binds (ps := ["self"]) fun _ _ _ _ _ _ us hl => match us, hl with | [_], _ => rfl
  have F17 := fun_mk (st := s_checked_rows) L17 D17 K17
  have b17 := F17.binds (ps := ["rows"]) fun _ _ _ _ _ _ us hl => match us, hl with | [_], _ => rfl
  have F18 := fun_mk (st := s_checked_width) L18 D18 K18
  have b18 := F18.binds (ps := ["rows", "width"]) fun _ _ _ _ _ _ us hl => match us, hl with | [_, _], _ => rfl
  have F19 := fun_mk (st := s_check_same_size) L19 D19 K19
  have b19 := F19.binds (ps := ["a", "b"]) fun _ _ _ _ _ _ us hl => match us, hl with | [_, _], _ => rfl
  have F20 := fun_mk (st := s_unit) L20 D20 K20
  have b20 := F20.binds (ps := ["n"]) fun _ _ _ _ _ _ us hl => match us, hl with | [_], _ => rfl
  have F21 := fun_mk (st := s_diagonal) L21 D21 K21
  have b21 := F21.binds (ps := ["numbers"]) fun _ _ _ _ _ _ us hl => match us, hl with | [_], _ => rfl
  have F22 := fun_mk (st := s_blocks) L22 D22 K22
  have b22 := F22.binds (ps := ["a", "b"]) fun _ _ _ _ _ _ us hl => match us, hl with | [_, _], _ => rfl
  have F23 := fun_mk (st := s_law_state) L23 D23 K23
  have b23 := F23.binds (ps := ["script"]) fun _ _ _ _ _ _ us hl => match us, hl with | [_], _ => rfl
  have F24 := fun_mk (st := s_law_take) L24 D24 K24
  have b24 := F24.binds (ps := ["state", "m"]) fun _ _ _ _ _ _ us hl => match us, hl with | [_, _], _ => rfl
  have F25 := fun_mk (st := s_law_rows) L25 D25 K25
  have b25 := F25.binds (ps := ["state", "height", "width", "most"]) fun _ _ _ _ _ _ us hl => match us, hl with | [_, _, _, _], _ => rfl
  have F26 := fun_mk (st := s_law_product) L26 D26 K26
  have b26 := F26.binds (ps := ["a", "b", "width"]) fun _ _ _ _ _ _ us hl => match us, hl with | [_, _, _], _ => rfl
  have F27 := fun_mk (st := s_law_is_rows) L27 D27 K27
  have b27 := F27.binds (ps := ["value", "height", "width"]) fun _ _ _ _ _ _ us hl => match us, hl with | [_, _, _], _ => rfl
  have F28 := fun_mk (st := s_law_malformed) L28 D28 K28
  have b28 := F28.binds (ps := ["a", "k"]) fun _ _ _ _ _ _ us hl => match us, hl with | [_, _], _ => rfl
  have F29 := fun_mk (st := s_law) L29 D29 K29
  have b29 := F29.binds (ps := ["script"]) fun _ _ _ _ _ _ us hl => match us, hl with | [_], _ => rfl
  let T : Top K mg := { a_is_integer := f1, d_is_integer := _, F_is_integer := F1, b_is_integer := b1, g_is_integer := PySem.W.mg_of X G A1, a_dot := f2, d_dot := _, F_dot := F2, b_dot := b2, g_dot := PySem.W.mg_of X G A2, a_Grid_init := f3, d_Grid_init := _, F_Grid_init := F3, b_Grid_init := b3, a_Grid_eq := f4, d_Grid_eq := _, F_Grid_eq := F4, b_Grid_eq := b4, m_Grid_eq := ⟨A4, I4, K4⟩, a_Grid_len := f5, d_Grid_len := _, F_Grid_len := F5, b_Grid_len := b5, m_Grid_len := ⟨A5, I5, K5⟩, a_Grid_iter := f6, d_Grid_iter := _, F_Grid_iter := F6, b_Grid_iter := b6, m_Grid_iter := ⟨A6, I6, K6⟩, a_Grid_add := f7, d_Grid_add := _, F_Grid_add := F7, b_Grid_add := b7, m_Grid_add := ⟨A7, I7, K7⟩, a_Grid_sub := f8, d_Grid_sub := _, F_Grid_sub := F8, b_Grid_sub := b8, m_Grid_sub := ⟨A8, I8, K8⟩, a_Grid_mul := f9, d_Grid_mul := _, F_Grid_mul := F9, b_Grid_mul := b9, m_Grid_mul := ⟨A9, I9, K9⟩, a_Grid_neg := f10, d_Grid_neg := _, F_Grid_neg := F10, b_Grid_neg := b10, m_Grid_neg := ⟨A10, I10, K10⟩, a_Grid_scaled := f11, d_Grid_scaled := _, F_Grid_scaled := F11, b_Grid_scaled := b11, m_Grid_scaled := ⟨A11, I11, K11⟩, a_Grid_transposed := f12, d_Grid_transposed := _, F_Grid_transposed := F12, b_Grid_transposed := b12, m_Grid_transposed := ⟨A12, I12, K12⟩, a_Grid_times := f13, d_Grid_times := _, F_Grid_times := F13, b_Grid_times := b13, m_Grid_times := ⟨A13, I13, K13⟩, a_Grid_before := f14, d_Grid_before := _, F_Grid_before := F14, b_Grid_before := b14, m_Grid_before := ⟨A14, I14, K14⟩, a_Grid_stacked := f15, d_Grid_stacked := _, F_Grid_stacked := F15, b_Grid_stacked := b15, m_Grid_stacked := ⟨A15, I15, K15⟩, a_Grid_is_square := f16, d_Grid_is_square := _, F_Grid_is_square := F16, b_Grid_is_square := b16, m_Grid_is_square := ⟨A16, I16, K16⟩, a_checked_rows := f17, d_checked_rows := _, F_checked_rows := F17, b_checked_rows := b17, g_checked_rows := PySem.W.mg_of X G A17, a_checked_width := f18, d_checked_width := _, F_checked_width := F18, b_checked_width := b18, g_checked_width := PySem.W.mg_of X G A18, a_check_same_size := f19, d_check_same_size := _, F_check_same_size := F19, b_check_same_size := b19, g_check_same_size := PySem.W.mg_of X G A19, a_unit := f20, d_unit := _, F_unit := F20, b_unit := b20, g_unit := PySem.W.mg_of X G A20, a_diagonal := f21, d_diagonal := _, F_diagonal := F21, b_diagonal := b21, g_diagonal := PySem.W.mg_of X G A21, a_blocks := f22, d_blocks := _, F_blocks := F22, b_blocks := b22, g_blocks := PySem.W.mg_of X G A22, a_law_state := f23, d_law_state := _, F_law_state := F23, b_law_state := b23, g_law_state := PySem.W.mg_of X G A23, a_law_take := f24, d_law_take := _, F_law_take := F24, b_law_take := b24, g_law_take := PySem.W.mg_of X G A24, a_law_rows := f25, d_law_rows := _, F_law_rows := F25, b_law_rows := b25, g_law_rows := PySem.W.mg_of X G A25, a_law_product := f26, d_law_product := _, F_law_product := F26, b_law_product := b26, g_law_product := PySem.W.mg_of X G A26, a_law_is_rows := f27, d_law_is_rows := _, F_law_is_rows := F27, b_law_is_rows := b27, g_law_is_rows := PySem.W.mg_of X G A27, a_law_malformed := f28, d_law_malformed := _, F_law_malformed := F28, b_law_malformed := b28, g_law_malformed := PySem.W.mg_of X G A28, a_law := fa, d_law := _, F_law := F29, b_law := b29, g_law := PySem.W.mg_of X G A29, C_Grid := C_Grid, g_Grid := PySem.W.mg_of X G aC_Grid, cl_Grid := ⟨pg_Grid, hd_Grid, po_Grid, sa_Grid⟩, mk_Grid := ⟨mk_Grid, A3, I3, kc_Grid⟩, n_rows := nr_Grid, n_width := nw_Grid, sf_Grid := sf_Grid, kc_Grid := yc_Grid, kg_Grid := yg_Grid, kt_Grid := yt_Grid, km_Grid := ym_Grid, ty_Grid := yt2_Grid, ic_Grid := yi_Grid, ne_Grid := yn_Grid, z_ValueError := PySem.W.mg_none_of X G z_ValueError, z_abs := PySem.W.mg_none_of X G z_abs, z_all := PySem.W.mg_none_of X G z_all, z_bool := PySem.W.mg_none_of X G z_bool, z_int := PySem.W.mg_none_of X G z_int, z_isinstance := PySem.W.mg_none_of X G z_isinstance, z_iter := PySem.W.mg_none_of X G z_iter, z_len := PySem.W.mg_none_of X G z_len, z_list := PySem.W.mg_none_of X G z_list, z_range := PySem.W.mg_none_of X G z_range, z_sum := PySem.W.mg_none_of X G z_sum, z_tuple := PySem.W.mg_none_of X G z_tuple, z_zip := PySem.W.mg_none_of X G z_zip, X_Malformed := X_Malformed, gX_Malformed := PySem.W.mg_of X G aX_Malformed, xX_Malformed := xX_Malformed, kX_Malformed := kX_Malformed, bX_Malformed := bX_Malformed, tX_Malformed := tX_Malformed, iX_Malformed := iX_Malformed, sX_Malformed := sX_Malformed }
  exact ⟨PySem.W.fnOf "law" "law" (defArgs s_law) (defBody s_law) (defScope s_law) .none kV29 dc29 pm29 an29 cd29 ct29, fun s v => .of_eq rfl, fun base _ _ hN => ok_law (w := w) T hN hT⟩
end K01
open PySem PySem.W PyProof.Rows
set_option maxRecDepth 100000 in
set_option maxHeartbeats 16000000 in
theorem PySem.Challenge.cw_gridmetric_k01_matrix_arithmetic_holds : PySem.Challenge.rw_gridmetric_k01_matrix_arithmetic.Holds := by
  w_on; o_law; k_head; (case hw => w_witness2)
  k_fill
  refine Gm.walk_ofN (n := 63) (k := 8) (sp := K01.sp_law) (x := "script") rfl (by decide) rfl ⟨rfl, by decide, by decide⟩ (by decide +kernel) (fun w h Y => PySem.W.kIn_of Y) ?F ?S
  case F =>
    intro w mg fa h Y KX G hmg
    refine' K01.all_mk KX G hmg rfl ?A1 ?L1 ?D1 ?K1 ?A2 ?L2 ?D2 ?K2 ?A3 ?I3 ?L3 ?T3 ?D3 ?K3 ?A4 ?I4 ?L4 ?D4 ?K4 ?A5 ?I5 ?L5 ?D5 ?K5 ?A6 ?I6 ?L6 ?D6 ?K6 ?A7 ?I7 ?L7 ?D7 ?K7 ?A8 ?I8 ?L8 ?D8 ?K8 ?A9 ?I9 ?L9 ?D9 ?K9 ?A10 ?I10 ?L10 ?D10 ?K10 ?A11 ?I11 ?L11 ?D11 ?K11 ?A12 ?I12 ?L12 ?D12 ?K12 ?A13 ?I13 ?L13 ?D13 ?K13 ?A14 ?I14 ?L14 ?D14 ?K14 ?A15 ?I15 ?L15 ?D15 ?K15 ?A16 ?I16 ?L16 ?D16 ?K16 ?A17 ?L17 ?D17 ?K17 ?A18 ?L18 ?D18 ?K18 ?A19 ?L19 ?D19 ?K19 ?A20 ?L20 ?D20 ?K20 ?A21 ?L21 ?D21 ?K21 ?A22 ?L22 ?D22 ?K22 ?A23 ?L23 ?D23 ?K23 ?A24 ?L24 ?D24 ?K24 ?A25 ?L25 ?D25 ?K25 ?A26 ?L26 ?D26 ?K26 ?A27 ?L27 ?D27 ?K27 ?A28 ?L28 ?D28 ?K28 ?A29 ?L29 ?D29 ?K29 ?aC_Grid ?pg_Grid ?hd_Grid ?po_Grid ?sa_Grid ?mk_Grid ?kc_Grid ?nr_Grid ?nw_Grid ?sf_Grid ?yc_Grid ?yg_Grid ?yt_Grid ?ym_Grid ?yt2_Grid ?yi_Grid ?yn_Grid ?z_ValueError ?z_abs ?z_all ?z_bool ?z_int ?z_isinstance ?z_iter ?z_len ?z_list ?z_range ?z_sum ?z_tuple ?z_zip ?aX_Malformed ?xX_Malformed ?kX_Malformed ?bX_Malformed ?tX_Malformed ?iX_Malformed ?sX_Malformed
    (case aC_Grid => k_is)
    (case aX_Malformed => k_is)
    (case A1 => k_is)
    (case L1 => k_is)
    (case D1 => k_is)
    (case K1 => k_is)
    (case A2 => k_is)
    (case L2 => k_is)
    (case D2 => k_is)
    (case K2 => k_is)
    (case A3 => k_is)
    (case I3 => k_is)
    (case L3 => k_is)
    (case T3 => k_is)
    (case D3 => k_is)
    (case K3 => k_is)
    (case A4 => k_is)
    (case I4 => k_is)
    (case L4 => k_is)
    (case D4 => k_is)
    (case K4 => k_is)
    (case A5 => k_is)
    (case I5 => k_is)
    (case L5 => k_is)
    (case D5 => k_is)
    (case K5 => k_is)
    (case A6 => k_is)
    (case I6 => k_is)
    (case L6 => k_is)
    (case D6 => k_is)
    (case K6 => k_is)
    (case A7 => k_is)
    (case I7 => k_is)
    (case L7 => k_is)
    (case D7 => k_is)
    (case K7 => k_is)
    (case A8 => k_is)
    (case I8 => k_is)
    (case L8 => k_is)
    (case D8 => k_is)
    (case K8 => k_is)
    (case A9 => k_is)
    (case I9 => k_is)
    (case L9 => k_is)
    (case D9 => k_is)
    (case K9 => k_is)
    (case A10 => k_is)
    (case I10 => k_is)
    (case L10 => k_is)
    (case D10 => k_is)
    (case K10 => k_is)
    (case A11 => k_is)
    (case I11 => k_is)
    (case L11 => k_is)
    (case D11 => k_is)
    (case K11 => k_is)
    (case A12 => k_is)
    (case I12 => k_is)
    (case L12 => k_is)
    (case D12 => k_is)
    (case K12 => k_is)
    (case A13 => k_is)
    (case I13 => k_is)
    (case L13 => k_is)
    (case D13 => k_is)
    (case K13 => k_is)
    (case A14 => k_is)
    (case I14 => k_is)
    (case L14 => k_is)
    (case D14 => k_is)
    (case K14 => k_is)
    (case A15 => k_is)
    (case I15 => k_is)
    (case L15 => k_is)
    (case D15 => k_is)
    (case K15 => k_is)
    (case A16 => k_is)
    (case I16 => k_is)
    (case L16 => k_is)
    (case D16 => k_is)
    (case K16 => k_is)
    (case A17 => k_is)
    (case L17 => k_is)
    (case D17 => k_is)
    (case K17 => k_is)
    (case A18 => k_is)
    (case L18 => k_is)
    (case D18 => k_is)
    (case K18 => k_is)
    (case A19 => k_is)
    (case L19 => k_is)
    (case D19 => k_is)
    (case K19 => k_is)
    (case A20 => k_is)
    (case L20 => k_is)
    (case D20 => k_is)
    (case K20 => k_is)
    (case A21 => k_is)
    (case L21 => k_is)
    (case D21 => k_is)
    (case K21 => k_is)
    (case A22 => k_is)
    (case L22 => k_is)
    (case D22 => k_is)
    (case K22 => k_is)
    (case A23 => k_is)
    (case L23 => k_is)
    (case D23 => k_is)
    (case K23 => k_is)
    (case A24 => k_is)
    (case L24 => k_is)
    (case D24 => k_is)
    (case K24 => k_is)
    (case A25 => k_is)
    (case L25 => k_is)
    (case D25 => k_is)
    (case K25 => k_is)
    (case A26 => k_is)
    (case L26 => k_is)
    (case D26 => k_is)
    (case K26 => k_is)
    (case A27 => k_is)
    (case L27 => k_is)
    (case D27 => k_is)
    (case K27 => k_is)
    (case A28 => k_is)
    (case L28 => k_is)
    (case D28 => k_is)
    (case K28 => k_is)
    (case A29 => k_is)
    (case L29 => k_is)
    (case D29 => k_is)
    (case K29 => k_is)
    (case pg_Grid => k_is)
    (case hd_Grid => k_is)
    (case po_Grid => k_is)
    (case sa_Grid => k_is)
    (case mk_Grid => k_is)
    (case kc_Grid => k_is)
    (case nr_Grid => k_is)
    (case nw_Grid => k_is)
    (case sf_Grid => k_is)
    (case yc_Grid => k_is)
    (case yg_Grid => k_is)
    (case yt_Grid => k_is)
    (case ym_Grid => k_is)
    (case yt2_Grid => k_is)
    (case yi_Grid => k_is)
    (case yn_Grid => k_is)
    (case z_ValueError => k_is)
    (case z_abs => k_is)
    (case z_all => k_is)
    (case z_bool => k_is)
    (case z_int => k_is)
    (case z_isinstance => k_is)
    (case z_iter => k_is)
    (case z_len => k_is)
    (case z_list => k_is)
    (case z_range => k_is)
    (case z_sum => k_is)
    (case z_tuple => k_is)
    (case z_zip => k_is)
    (case xX_Malformed => k_exc)
    (case kX_Malformed => k_is)
    (case bX_Malformed => k_is)
    (case tX_Malformed => k_is)
    (case iX_Malformed => k_is)
    (case sX_Malformed => first | rfl | k_is)
  case S =>
    intro K H a ns hl hb hs
    exact ⟨a, ns, rfl, hs, hl, hb, fun _ => rfl⟩
