import PyProof.Rows.All
import Wide.All
import OpenK.AllK
import Wide.FinOn
import HandS.WordsExc
import HandS.ForMost
import HandS.Exc
import HandS.TryOnly
import HandS.ExcOwn
import HandS.IsInst
import HandS.Zip
import HandS.Walk
import HandS.Wide
import HandS.WideBits
import HandS.Conv
import HandS.Codes
import HandS.Defaults
import HandS.TupAny
import HandS.Style
import HandS.Gcd
import HandS.EndBits
import HandS.Sort
import HandS.Slots
import HandS.SlotsOwn
import KE.GoesMore
import KE.KOpsOwn
import HandS.HeadEnd
import HandS.More
import PyProof.InstNe
import KE.KItemsList
import KE.KDictZip
import PySem.Challenge.RW_gridmetric_k14_tail_matrices
set_option Elab.async false
set_option linter.all false
set_option maxRecDepth 100000
set_option maxHeartbeats 40000000
/-! Further rules over the layer: // by any positive divisor; a range that is a value, walked; enumerate of a tuple; operators of an own class. -/
namespace Gm
open PySem PySem.Spec PyProof.Rows L2
section
variable {X : Cx}
/-! ### // by any positive divisor -/
theorem op_fdivP {env : Env} {l : List Env} (hN : X.base.NoSeer) (hst : X.stack = env :: l) (hgen : env.scope.isGenerator = false) (hco : env.scope.isCoroutine = false) (hb : env.builtins = builtinsNs) (hg : env.globals = mainGlobals)
    (ht : X.prog.given.tree = none) (hd : X.A.depth + 100 < recursionLimit) : OpR X (binaryOp .FloorDiv) (rI (fun _ j => 0 < j) fun i j => .int (i / j)) := by
  intro pn s σ H x y v u Q I rx ry h
  obtain ⟨i, j, rfl, rfl, hCond, q⟩ := h
  obtain ⟨t, rfl⟩ := rx
  obtain ⟨t', rfl⟩ := ry
  have h1 : (0 : Int) < j := hCond
  have hs : SeerAt (model X.prog X.w) X.A s.heap := PySem.SeerAt.of (hN.keeps I.bk) ht (I.ok.frames.trans (congrArg some hst)) hgen hco hb hg
  refine floordiv_int (by omega) ?_ (.inr (PySem.PylongRoom.of I.nolimit hd hs))
  rw [Int.fdiv_eq_ediv_of_nonneg i (by omega)]
  exact ⟨.int (i / j), H, I.tok _, ⟨_, rfl⟩, q⟩
theorem op_fdivQ {env : Env} {l : List Env} (hN : X.base.NoSeer) (hst : X.stack = env :: l) (hgen : env.scope.isGenerator = false) (hco : env.scope.isCoroutine = false) (hb : env.builtins = builtinsNs) (hg : env.globals = mainGlobals)
    (ht : X.prog.given.tree = none) (hd : X.A.depth + 100 < recursionLimit) : OpR X (binaryOp .FloorDiv) (rI (fun _ j => j ≠ 0) fun i j => .int (i.fdiv j)) := by
  intro pn s σ H x y v u Q I rx ry h
  obtain ⟨i, j, rfl, rfl, hCond, q⟩ := h
  obtain ⟨t, rfl⟩ := rx
  obtain ⟨t', rfl⟩ := ry
  have hs : SeerAt (model X.prog X.w) X.A s.heap := PySem.SeerAt.of (hN.keeps I.bk) ht (I.ok.frames.trans (congrArg some hst)) hgen hco hb hg
  refine floordiv_int hCond ?_ (.inr (PySem.PylongRoom.of I.nolimit hd hs))
  exact ⟨.int (i.fdiv j), H, I.tok _, ⟨_, rfl⟩, q⟩
theorem room100 {k : Nat} {A : Around} (hr : Room k A) (hk : 40 ≤ k) : A.depth + 100 < recursionLimit := by
  have := hr.dp
  omega
/-! ### a range as a value, and walked -/
theorem cr_range1 : CallR X (.type "range") (fun vs H Q => ∃ j, vs = [V.int j] ∧ ∀ p, H p = none → Q (.ref p) (upd H p (.rng 0 j))) := by
  intro pn s σ H vs argv Q I r h
  obtain ⟨j, rfl, q⟩ := h
  cases r with
  | cons r rr =>
    cases rr
    obtain ⟨t, rfl⟩ := r
    exact call_range_1 ⟨.ref s.heap.objs.size, upd H s.heap.objs.size (.rng 0 j), I.laid (t' := s.toks + 1 + 1) (fun b o e => Heap.get?_push_of_some _ e) (Nat.le_refl _) ⟨_, _, _, Heap.get?_push_size _ rfl⟩, rfl, q _ (I.hok.fresh (Nat.le_refl _))⟩
def iRv (te : TE) : TI := fun σ H R => te σ H fun v H1 => ∃ a lo hi, v = .ref a ∧ H1 a = some (.rng lo hi) ∧ (-(2 ^ 62) ≤ lo ∧ lo < 2 ^ 62 ∧ -(2 ^ 62) ≤ hi ∧ hi < 2 ^ 62) ∧ R (Itr lo (hi - lo).toNat) H1
theorem pi_rngv {tg e : Expr} {te : TE} (he : PE X e te) : PI X tg e (iRv te) := by
  refine ⟨fun pn s σ H R I h => ?_⟩
  refine thn (he.run pn s σ H _ I h) fun v s1 ⟨x, H1, J1, rel1, post1⟩ => ?_
  obtain ⟨a, lo, hi, ex, ha, ⟨post1, q2, q3, q4⟩, q⟩ := post1
  subst ex
  cases rel1
  obtain ⟨t, u, w, hr⟩ := J1.hok a _ ha
  refine wpAny_pyIter_range (show IsRange s1.heap a lo hi 1 t u w from hr) (small_one post1 q2 q3 q4) ?_
  refine ⟨s1.heap.objs.size, [s1.heap.objs.size], _, _, H1, rfl, J1.kept (t' := s1.toks) fun b o e => Heap.get?_push_of_some _ e, turn_range _ lo (hi - lo).toNat, ?_, fun b hb => ?_, q⟩
  · have eLo : lo + ((0 : Nat) : Int) * 1 = lo := by simp
    have eHi : (((hi - lo).toNat : Nat) : Int) - ((0 : Nat) : Int) = Builtin.Range.rangeSize lo hi 1 := by rw [rangeSize_one]; split <;> omega
    show IsRangeIter _ _ (lo + ((0 : Nat) : Int) * 1) ((((hi - lo).toNat : Nat) : Int) - ((0 : Nat) : Int)) 1
    rw [eLo, eHi]
    exact Heap.get?_push_size _ rfl
  · have e : b = s1.heap.objs.size := by simpa using hb
    subst e
    exact J1.fpOk (Nat.le_refl _) (J1.hok.fresh (Nat.le_refl _))
end
end Gm
namespace Gm
open PySem PySem.Spec PyProof.Rows L2
open AutoSeq1 (wpAny_loadPart')
/-! ### enumerate of a tuple -/
theorem meets_enumerate_newT (l : Addr) (items : Array Value) (n : Nat) (dc : Option Addr) (slo : Array (Option Value)) :
    Meets (Builtin.«enumerate.__new__» ⟨[.type "enumerate", .ref l], []⟩) (fun _ R s => s.heap.get? l = some { cls := .type "tuple", dict := dc, data := .seq items n, slots := slo } ∧
      R (.ok (.ret (.ref (s.heap.push { cls := .type "tuple_iterator", data := .fields #[.ref l, .int 0 0] }).objs.size)))
        { s with heap := (s.heap.push { cls := .type "tuple_iterator", data := .fields #[.ref l, .int 0 0] }).push { cls := .type "enumerate", data := .fields #[.none, .bool false, .ref s.heap.objs.size, rawInt 0, .none, .none] } }) :=
  .of_wp fun prog w A R s h => by
    obtain ⟨heap0, g, d, tk0, os0⟩ := s; obtain ⟨hGet, h⟩ := h
    have hsub := sub_enumerate
    have hL : Heap.IsTuple (Shared.heap ⟨heap0, g, d, tk0, os0⟩) l items := ⟨_, hGet, rfl, n, rfl⟩
    wp_walk using wpAny_loadPart' hGet
    refine wpAny_stack_any fun stt => wpAny_pure ?_
    split
    · rename_i c _ _ _ _ _
      cases (c == Value.type "enumerate")
      · wp_walk using wpAny_loadPart' hGet, wpAny_pyIter_tuple hL
        exact ⟨_, rfl, h⟩
      · wp_walk using wpAny_loadPart' hGet, wpAny_pyIter_tuple hL
        exact ⟨_, rfl, h⟩
    · wp_walk using wpAny_loadPart' hGet, wpAny_pyIter_tuple hL
      exact ⟨_, rfl, h⟩
section
variable {prog : Program} {w : World} {A : Around} {E : Value → Shared → Prop} {s : Shared}
theorem call_enumerate_tuple {l : Addr} {items : Array Value} {Q : Value → Shared → Prop} (hL : s.heap.IsTuple l items)
    (h : ∀ h', IsEnum h' (s.heap.objs.size + 1) s.heap.objs.size 0 .none → h'.IsTupleIter s.heap.objs.size l 0 → h'.objs.size = s.heap.objs.size + 2 →
      (∀ b o, s.heap.get? b = some o → h'.get? b = some o) → Q (.ref (s.heap.objs.size + 1)) { s with heap := h' }) :
    wpAny (model prog w) A (call (.type "enumerate") [.ref l]) Q E s := by
  obtain ⟨⟨c, dc, dd, slo⟩, hGet, hCls, n, hDat⟩ := hL
  replace hCls : c = .type "tuple" := hCls
  replace hDat : dd = .seq items n := hDat
  subst hCls hDat
  refine callType_new F.called_enumerate (by decide) (F.typeCall_enumerate_1 _) (F.newCall_enumerate_1 _) (fun obj => F.args_object_init_2 obj _) F.entry_enumerate_new
    (meets_enumerate_newT l items n dc slo) ⟨hGet, ?_⟩
  have hLen : (s.heap.push { cls := .type "tuple_iterator", data := .fields #[.ref l, .int 0 0] }).objs.size = s.heap.objs.size + 1 := Heap.size_push ..
  show _ ∧ _
  rw [hLen]
  have hEn : IsEnum ((s.heap.push { cls := .type "tuple_iterator", data := .fields #[.ref l, .int 0 0] }).push
      { cls := .type "enumerate", data := .fields #[.none, .bool false, .ref s.heap.objs.size, rawInt 0, .none, .none] }) (s.heap.objs.size + 1) s.heap.objs.size 0 .none := by
    have := Heap.get?_push_size (s.heap.push { cls := .type "tuple_iterator", data := .fields #[.ref l, .int 0 0] })
      (o := { cls := .type "enumerate", data := .fields #[.none, .bool false, .ref s.heap.objs.size, rawInt 0, .none, .none] }) rfl
    rw [hLen] at this; exact this
  refine ⟨⟨_, hEn, rfl⟩, h _ hEn ⟨_, Heap.get?_push_of_some _ (Heap.get?_push_size _ rfl), rfl, rfl⟩ (by rw [Heap.size_push, hLen]) fun b o x => Heap.get?_push_of_some _ (Heap.get?_push_of_some _ x)⟩
end
def IteT (K : PySem.W.Frag) (a : Addr) : It :=
  ⟨fun i H => ∃ (xv : List V) (x : V), SqT K H a xv ∧ xv[i]? = some x, fun i H v H' => ∃ T0 x, v = .ref T0 ∧ H T0 = none ∧ H' = upd H T0 (.tup [.int (i : Nat), x]) ∧ ∀ xv, SqT K H a xv → xv[i]? = some x, fun i H => ∃ xv : List V, SqT K H a xv ∧ xv.length ≤ i⟩
theorem turn_enumT {P : Program} {w : World} {K : PySem.W.Frag} {elts : List Expr} {kk : Nat} {tpos : Pos} (a e it : Addr) (hAi : a ≠ it) :
    Turn P w K (.Tuple elts kk tpos) (IteT K a) [e, it] e (fun i h => (∃ ol, IsEnum h e it ((i : Nat) : Int) ol) ∧ h.IsTupleIter it a i ∧ e ≠ it) where
  mem := by simp
  obj := fun i h stt b hBm => by
    obtain ⟨⟨ol, hEn⟩, ⟨o, ho, hCls, hDat⟩, _⟩ := stt
    have ee : b = e ∨ b = it := by simpa using hBm
    rcases ee with zq | zq
    · rw [zq]; exact ⟨_, hEn, fun v q => nomatch q⟩
    · rw [zq]; exact ⟨o, ho, fun v q => by rw [hDat] at q; cases q⟩
  keep := fun i h h' stt k => let ⟨⟨ol, hEn⟩, hIx, hDif⟩ := stt; ⟨⟨ol, k e (by simp) _ hEn⟩, hIx.at fun o q => k it (by simp) o q, hDif⟩
  item := by
    intro X hP hw hK hCls i pn s σ H E I hFp stt hGo
    subst hP hw hK
    obtain ⟨⟨ol, hEn⟩, hTi, hDif⟩ := stt
    obtain ⟨xv, x, hSq, hXi⟩ := hGo
    obtain ⟨vals, hvals, p, hLen⟩ := I.tuple hSq
    obtain ⟨u, hUi, rUi⟩ := hvals.get hXi
    have lEn : e < s.heap.objs.size := Heap.lt_size hEn
    have lTi : it < s.heap.objs.size := by obtain ⟨_, q, _⟩ := hTi; exact Heap.lt_size q
    have p' : s.heap.IsTuple a vals.toArray := p
    have hae : a ≠ e := by
      intro zq
      subst zq
      obtain ⟨o1, e1, c1, _⟩ := p'
      rw [hEn] at e1
      cases e1
      exact absurd (Value.type.inj c1) (by decide)
    have hLt : i < vals.toArray.size := by
      have := (List.getElem?_eq_some_iff.mp hUi).1
      simpa using this
    refine wpAny_pyNext_enum_itemD (Draws.tuple (prog := X.prog) (w := X.w) (A := X.A.in1) (I.ok.hd hCls) it a hAi vals.toArray) hEn ⟨hTi, p'⟩ hLt hDif (by simp [hDif, Ne.symm hae]) fun x' h' tk0 hP ho st' hTy hSz hKp => ?_
    obtain ⟨hit', p2⟩ := st'
    have hx' : x' = u := by
      have : vals[i]? = some x' := by simpa using hP
      rw [hUi] at this
      exact (Option.some.inj this).symm
    subst hx'
    refine ⟨_, rfl, wpAny_letOwnedTupleGo_enum (s := { s with heap := h', toks := tk0 + 1 }) ho fun h'' he' sBig => ?_⟩
    have hTy2 : h''.get? s.heap.objs.size = some { cls := .type "tuple", data := .seq #[.int i tk0, x'] } := (sBig.2 _ (Nat.ne_of_gt lEn)).trans hTy
    have nw : ObjOk X.prog X.w (upd H s.heap.objs.size (.tup [.int (i : Nat), x])) h'' s.heap.objs.size (.tup [.int (i : Nat), x]) :=
      ⟨by show 2 ≤ sizeLine; decide, [.int i tk0, x'], .cons ⟨_, rfl⟩ (.cons rUi .nil), ⟨_, hTy2, rfl, _, rfl⟩⟩
    have J1 : Inv X pn σ (upd H s.heap.objs.size (.tup [.int (i : Nat), x])) { s with heap := h'', toks := tk0 + 1 } :=
      I.turnedNew (ch := [e, it]) (fun b ob hBm q => (sBig.2 b (fun zq => hBm (by simp [zq]))).trans (hKp b ob (fun zq => hBm (by simp [zq])) (fun zq => hBm (by simp [zq])) q)) hFp (Nat.le_refl _) nw
    refine ⟨.ref s.heap.objs.size, _, J1, rfl, ⟨_, x, rfl, I.hok.fresh (Nat.le_refl _), rfl, fun yv hy => by rw [I.tuple_inj hy hSq]; exact hXi⟩, ⟨⟨x', ?_⟩, hit'.at fun o q => (sBig.2 it (Ne.symm hDif)).trans q, hDif⟩, fun b hBm => ?_⟩
    · have e1 : ((i + 1 : Nat) : Int) = (i : Int) + 1 := by omega
      rw [e1]; exact he'
    · have hBm2 : b < s.heap.objs.size := by
        have ee : b = e ∨ b = it := by simpa using hBm
        rcases ee with zq | zq
        · rw [zq]; exact lEn
        · rw [zq]; exact lTi
      rw [upd_ne (Nat.ne_of_lt hBm2)]
      exact (hFp b hBm).1
  done := by
    intro X hP hw hK hCls i pn s σ H E I hFp stt hGo
    subst hP hw hK
    obtain ⟨⟨ol, hEn⟩, hTi, hDif⟩ := stt
    obtain ⟨xv, hSq, hXi⟩ := hGo
    obtain ⟨vals, hvals, p, hLen⟩ := I.tuple hSq
    obtain ⟨f0, f1, f2, f3, f4, f5⟩ := hFp it (by simp)
    have hGet := hvals.length
    have p' : s.heap.IsTuple a vals.toArray := p
    have hTy : s.TypeIs (.ref e) "enumerate" := ⟨_, hEn, rfl⟩
    unfold pyNext
    refine wpAny_bind (wpAny_attempt (wpAny_callSpecial?_slot (name := Str.ofString "__next__") hTy F.slot_enumerate_next
      (wpAny_call_entry F.slot_enumerate_next hTy F.entry_enumerate_next ?_ (F.args_enumerate_next_1 _))))
    show wpAny _ _ (field (.ref e) 2 >>= _) _ _ _
    refine wpAny_bind (wpAny_field hEn rfl (x := .ref it) rfl ?_)
    refine wpAny_bind (wpAny_nextOf_tuple_end (I.ok.hd hCls) hTi p' (by simp; omega) fun h' x he' hx' => ?_)
    obtain ⟨o, ho, hc'⟩ := hx'
    refine wpAny_bind (wpAny_isInstance (T := "StopIteration") (b := true) ⟨o, ho, hc'⟩ isSubtype_stop ?_)
    exact wpAny_pure ⟨rfl, I.turned (t' := s.toks) (fun b o hBm q => he' b o hBm q) f0 f1 f3 f4 f5⟩
  self := fun A i s Q E stt h => let ⟨⟨_, hEn⟩, _⟩ := stt; wpAny_pyIter_enum hEn h
def iEnumA (K : PySem.W.Frag) (ta : TA) : TI := fun σ H R => ta σ H fun wsv HA => ∃ a xv, wsv = [.ref a] ∧ ((SqL K HA a xv ∧ R (Ite K a) HA) ∨ (SqT K HA a xv ∧ R (IteT K a) HA))
theorem pi_enumA {X : Cx} {e : Expr} {ta : TA} {p pos tpos : Pos} {elts : List Expr} {kk : Nat} (hGo : Gl X "enumerate") (hm : X.mg "enumerate" = none) (ha : PA X [e] ta) (hs : starEach [e] X.env = [(false, eval e X.env)] := by rfl) :
    PI X (.Tuple elts kk tpos) (.Call (.Name "enumerate" p) [e] [] pos) (iEnumA X.K ta) := by
  refine ⟨fun pn s σ H R I h => ?_⟩
  refine Call_ (ld_blt I hGo hm boot_enumerate (PyProof.Rows.callWith_type1 (thn (ha.run pos pn s σ H _ I h) fun argv sA ⟨wsv, HA, J1, rel1, post1⟩ => ?_) hs rfl))
  obtain ⟨a, xv, ex, hSq⟩ := post1
  subst ex
  cases rel1 with
  | cons r rr =>
    cases rr
    cases r
    have hFin : ∀ b ∈ [sA.heap.objs.size + 1, sA.heap.objs.size], sA.heap.objs.size ≤ b := fun b hBm => by
      have ee : b = sA.heap.objs.size + 1 ∨ b = sA.heap.objs.size := by simpa using hBm
      rcases ee with zq | zq
      · rw [zq]; exact Nat.le_add_right _ _
      · rw [zq]; exact Nat.le_refl _
    rcases hSq with ⟨hSq, q⟩ | ⟨hSq, q⟩
    · obtain ⟨vals, hvals, p', hLen⟩ := J1.list hSq
      refine call_enumerate_list p'.isList fun h' hEn hTi hSz hKp => wpAny_pyIter_enum hEn ?_
      have J2 : Inv X pn σ HA { sA with heap := h' } := J1.kept (t' := sA.toks) hKp
      exact ⟨sA.heap.objs.size + 1, [sA.heap.objs.size + 1, sA.heap.objs.size], _, _, HA, rfl, J2, turn_enum a (sA.heap.objs.size + 1) sA.heap.objs.size, ⟨⟨.none, hEn⟩, hTi, Nat.succ_ne_self _⟩, fun b hBm => J1.fpOk (hFin b hBm) (J1.hok.fresh (hFin b hBm)), q⟩
    · obtain ⟨vals, hvals, p', hLen⟩ := J1.tuple hSq
      have hAl : a ≠ sA.heap.objs.size := by
        obtain ⟨o, e, _⟩ := (show sA.heap.IsTuple a vals.toArray from p')
        exact Nat.ne_of_lt (Heap.lt_size e)
      refine call_enumerate_tuple (show sA.heap.IsTuple a vals.toArray from p') fun h' hEn hTi hSz hKp => wpAny_pyIter_enum hEn ?_
      have J2 : Inv X pn σ HA { sA with heap := h' } := J1.kept (t' := sA.toks) hKp
      exact ⟨sA.heap.objs.size + 1, [sA.heap.objs.size + 1, sA.heap.objs.size], _, _, HA, rfl, J2, turn_enumT a (sA.heap.objs.size + 1) sA.heap.objs.size hAl, ⟨⟨.none, hEn⟩, hTi, Nat.succ_ne_self _⟩, fun b hBm => J1.fpOk (hFin b hBm) (J1.hok.fresh (hFin b hBm)), q⟩
theorem walk_enumT {K : PySem.W.Frag} {a : Addr} {xv : List V} : Walk (IteT K a) xv.length (fun H => SqT K H a xv) (YPair (fun i => some (.int (i : Nat))) (fun i => xv[i]?)) := by
  refine ⟨fun i _ hIx q => ⟨xv, xv[i], q, by simp [hIx]⟩, fun _ q => ⟨xv, q, Nat.le_refl _⟩, fun i H v H' _ q y => ?_⟩
  obtain ⟨T0, x, h1, h2, h3, h4⟩ := y
  exact ⟨T0, .int (i : Nat), x, h1, h2, h3, rfl, h4 xv q⟩
theorem walk_zipT {K : PySem.W.Frag} {a b : Addr} {xv yv : List V} {n : Nat} (hn : n = min xv.length yv.length) : Walk (RZ.ItzT K a b) n (fun H => SqT K H a xv ∧ SqT K H b yv) (YPair (fun i => xv[i]?) (fun i => yv[i]?)) := by
  subst hn
  refine ⟨fun i _ hIx q => ?_, fun _ q => ⟨xv, yv, q.1, q.2, by omega⟩, fun i H v H' _ q y => ?_⟩
  · have h1 : i < xv.length := by omega
    have h2 : i < yv.length := by omega
    exact ⟨xv, yv, xv[i], yv[i], q.1, q.2, by simp [h1], by simp [h2]⟩
  · obtain ⟨T0, x, zq, h1, h2, h3, h4, h5⟩ := y
    exact ⟨T0, x, zq, h1, h2, h3, h4 xv q.1, h5 yv q.2⟩
end Gm
namespace Gm
open PySem PySem.Spec PyProof.Rows L2
section
variable {X : Cx} {C f : Addr} {fd : FuncData} {ps : List Str} {CX : CXT} {k : Nat} {sp : Sp} {E : XK}
/-- an instance as the library's words want it -/
theorem inst_of {pn : List (Addr × Obj)} {σ : L2.St} {H : Hp} {s : Shared} {a dx : Addr} {fs : List (Str × V)} (I : Inv X pn σ H s) (ha : H a = some (.ins C dx fs)) : ∃ od, PySem.W.InstAt s.heap a (PySem.W.instObj C dx) C (some od) := by
  obtain ⟨mAt, J, _⟩ := ins_get I.hok ha
  obtain ⟨od, J, _⟩ := J.look
  exact ⟨od, J⟩
/-- a op b, both instances of one own class that defines op -/
def rOwnBin (C : Addr) (sp : Sp) (E : XK) : R2 := fun x y H Q => ∃ a b dx dy fs gs, x = .ref a ∧ y = .ref b ∧ H a = some (.ins C dx fs) ∧ H b = some (.ins C dy gs) ∧ sp [x, y] H Q E
theorem op_ownBin {op : Operator} (hc : PySem.W.selfFirst X.K C = true) (hs : PySem.W.findIn X.K (.ref C) (PySem.dunder op.info.2) = some (some (.ref f))) (hf : PySem.W.isFn X.K (.ref f) = true)
    (F : FnOk X.prog X.w X.K X.mg X.base CX k f fd ps sp) (hr : Room k X.A) (hb : Binds X.K fd ps []) (hx : Passes CX X E) : OpR X (binaryOp op) (rOwnBin C sp E) := by
  intro pn s σ H x y v u Q I rx ry h
  obtain ⟨a, b, dx, dy, fs, gs, rfl, rfl, ha, hb', q⟩ := h
  cases rx
  cases ry
  obtain ⟨od, J⟩ := inst_of I ha
  obtain ⟨od', J'⟩ := inst_of I hb'
  obtain ⟨m, hF⟩ := I.fr
  refine PySem.W.binop_K hF I.ok.mod.kin J J'.type hc hs hf ?_
  refine wpAny_mono (run_fn (us := [.ref a, .ref b]) (vs := [.ref a, .ref b]) F hr hb .nil hx I (.cons rfl (.cons rfl .nil)) q) (fun w s' z => ?_) fun _ _ x => x
  obtain ⟨zR, HR, IR, relZ, postZ⟩ := z
  exact SlX.cmpback relZ ⟨zR, HR, IR, relZ, postZ⟩
/-- a op b compared by an own def -/
def rOwnCmp (K : PySem.W.Frag) (C : Addr) (sp : Sp) (E : XK) : R2 := fun x y H Q => ∃ a b dx dy fs gs, x = .ref a ∧ y = .ref b ∧ H a = some (.ins C dx fs) ∧ H b = some (.ins C dy gs) ∧ sp [x, y] H Q E
theorem op_ownCmp {op : CmpOp} (hop : ∀ a b, compareOp op a b = richCompare op a b) (hs : PySem.W.findIn X.K (.ref C) (cmpInfo op).2.1 = some (some (.ref f))) (hf : PySem.W.isFn X.K (.ref f) = true)
    (F : FnOk X.prog X.w X.K X.mg X.base CX k f fd ps sp) (hr : Room k X.A) (hb : Binds X.K fd ps []) (hx : Passes CX X E) : OpR X (compareOp op) (rOwnCmp X.K C sp E) := by
  intro pn s σ H x y v u Q I rx ry h
  obtain ⟨a, b, dx, dy, fs, gs, rfl, rfl, ha, hb', q⟩ := h
  cases rx
  cases ry
  obtain ⟨od, J⟩ := inst_of I ha
  obtain ⟨od', J'⟩ := inst_of I hb'
  obtain ⟨m, hF⟩ := I.fr
  rw [hop]
  refine PySem.W.cmp_K (op := op) (tb := .ref C) hr.units0 hF I.ok.mod.kin J J'.type (by simp [PySem.W.notFirst]) hs hf ?_
  refine wpAny_mono (run_fn (us := [.ref a, .ref b]) (vs := [.ref a, .ref b]) F hr hb .nil hx I (.cons rfl (.cons rfl .nil)) q) (fun w s' z => ?_) fun _ _ x => x
  obtain ⟨zR, HR, IR, relZ, postZ⟩ := z
  exact SlX.cmpback relZ ⟨zR, HR, IR, relZ, postZ⟩
/-- -a of an own class -/
def rOwnUn (C : Addr) (sp : Sp) (E : XK) : V → Hp → VK → Prop := fun x H Q => ∃ a dx fs, x = .ref a ∧ H a = some (.ins C dx fs) ∧ sp [x] H Q E
theorem un_ownNeg (hs : PySem.W.findIn X.K (.ref C) "__neg__" = some (some (.ref f))) (hf : PySem.W.isFn X.K (.ref f) = true)
    (F : FnOk X.prog X.w X.K X.mg X.base CX k f fd ps sp) (hr : Room k X.A) (hb : Binds X.K fd ps []) (hx : Passes CX X E) : UnR X (unaryOp .USub) (rOwnUn C sp E) := by
  intro pn s σ H x v Q I rx h
  obtain ⟨a, dx, fs, rfl, ha, q⟩ := h
  cases rx
  obtain ⟨od, J⟩ := inst_of I ha
  obtain ⟨m, hF⟩ := I.fr
  exact PySem.W.ksp_neg hF I.ok.mod.kin J hs hf (run_fn (us := [.ref a]) (vs := [.ref a]) F hr hb .nil hx I (.cons rfl .nil) q)
/-- len(a) of an own class -/
def rOwnLen (C : Addr) (sp : Sp) (E : XK) : List V → Hp → VK → Prop := fun xs H Q => ∃ a dx fs, xs = [.ref a] ∧ H a = some (.ins C dx fs) ∧ sp [.ref a] H (fun v HR => ∃ n : Nat, v = .int n ∧ n < 2 ^ 62 ∧ Q (.int n) HR) E
theorem call_ownLen (hs : PySem.W.findIn X.K (.ref C) "__len__" = some (some (.ref f))) (hf : PySem.W.isFn X.K (.ref f) = true)
    (F : FnOk X.prog X.w X.K X.mg X.base CX k f fd ps sp) (hr : Room (k + 1) X.A) (hb : Binds X.K fd ps []) (hx : ∀ (H : Hp) (s : Shared) (e : Value) (s' : Shared), CX X.stack H s E e s' → False) : CallR X (.builtin "len") (rOwnLen C sp E) := by
  intro pn s σ H vs argv Q I r h
  obtain ⟨a, dx, fs, rfl, ha, q⟩ := h
  cases r with
  | cons r rRest =>
    cases rRest
    cases r
    obtain ⟨od, J⟩ := inst_of I ha
    obtain ⟨m, hF⟩ := I.fr
    refine PySem.W.len_K hF I.ok.mod.kin J hs hf ?_
    have hl := F.len _ _ _ _ q
    have relV : Vals [V.ref a] [Value.ref a] := .cons rfl .nil
    refine wpAny_call (codeAny_mono (F.run X.A.in1 X.stack s H ⟨[.ref a], []⟩ [.ref a] [.ref a] _ E hr.in1 I.env0.in1 (by
      have := hb s [.ref a] I.kIn (by simpa using hl)
      simpa using this) relV q) fun r s' hq => ?_)
    cases r with
    | error e => exact (hx _ _ _ _ hq).elim
    | ok fl =>
      cases fl with
      | ret w =>
        obtain ⟨z, HR, IR, relZ, n, ez, hn, ex⟩ := I.after hq
        subst ez
        obtain ⟨t, rfl⟩ := relZ
        exact ⟨⟨by omega, by omega⟩, .int n, HR, IR.tok _, ⟨_, rfl⟩, ex⟩
      | next => exact False.elim hq
      | brk => exact False.elim hq
      | cont => exact False.elim hq
end
/-! ### a method that may raise, what is raised wished for at the caller's slots -/
section
variable {X : Cx} {C f : Addr} {fd : FuncData} {ps : List Str} {CX : CXT} {k : Nat} {sp : Sp} {E : L2.St → XK} {o e : Expr} {es : List Expr} {m : Str} {ta : TE} {t : TA} {pos apos : Pos}
def tMethS (C : Addr) (m : Str) (sp : Sp) (E : L2.St → XK) (ta : TE) (t : TA) : TE := fun σ H Q => ta σ H fun x H1 => ∃ a dx fs, x = .ref a ∧ H1 a = some (.ins C dx fs) ∧ fs.lookup m = none ∧ t σ H1 fun vs H2 => sp (x :: vs) H2 Q (E σ)
theorem pe_methS {pl : Sem Bool} (he : PE X o ta) (c : Cls X.K C) (hm : Meth X.K C m f) (F : FnOk X.prog X.w X.K X.mg X.base CX k f fd ps sp) (hr : Room k X.A) (hb : Binds X.K fd ps []) (hx : ∀ σ, PassesAt CX X σ (E σ)) (ha : PA X (e :: es) t)
    (hStar : starEach (e :: es) X.env = (false, eval e X.env) :: starEach es X.env := by rfl) (hPlain : (backTo pos (starEach es X.env)).any (·.1) = false := by rfl)
    (hEval : eval (.Call (.Attribute o m apos) (e :: es) [] pos) X.env = (do
      let ov ← eval o X.env
      standAt apos.atName
      let (f, first) ← holding [ov] (getMethod ov m pl)
      callWith pos f first (backTo pos (starEach (e :: es) X.env)) (backToKw pos (keywordEach [] X.env))) := by rfl) :
    PE X (.Call (.Attribute o m apos) (e :: es) [] pos) (tMethS C m sp E ta t) := by
  refine ⟨fun pn s σ H Q I h => ?_⟩
  refine PySem.W.methodCall_KW (pl := pl) (thn (he.run pn s σ H _ I h) fun u s1 ⟨x, H1, J1, rx, a, dx, fs, ex, ea, l, q⟩ => ?_) hEval
  subst ex
  obtain rfl : u = Value.ref a := rx
  refine getmeth_ok J1 ea c hm l ?_
  refine PySem.W.callWith_K (first := [.ref a]) (h₀ := X.base) I.ok.mod.kin hm.kp (thn (ha.run pos pn s1 σ H1 _ J1 q) fun argv s2 ⟨vs, H2, J2, r, q2⟩ => ⟨J2.kIn, ?_⟩) hStar hPlain
  exact run_fnS (us := .ref a :: argv) (vs := .ref a :: vs) F hr hb (hx σ) J2 (.cons rfl r) q2
theorem pe_methS0 {pl : Sem Bool} (he : PE X o ta) (c : Cls X.K C) (hm : Meth X.K C m f) (F : FnOk X.prog X.w X.K X.mg X.base CX k f fd ps sp) (hr : Room k X.A) (hb : Binds X.K fd ps []) (hx : ∀ σ, PassesAt CX X σ (E σ))
    (hEval : eval (.Call (.Attribute o m apos) [] [] pos) X.env = (do
      let ov ← eval o X.env
      standAt apos.atName
      let (f, first) ← holding [ov] (getMethod ov m pl)
      callWith pos f first (backTo pos (starEach [] X.env)) (backToKw pos (keywordEach [] X.env))) := by rfl) :
    PE X (.Call (.Attribute o m apos) [] [] pos) (tMethS C m sp E ta tNil) := by
  refine ⟨fun pn s σ H Q I h => ?_⟩
  refine PySem.W.methodCall_KW (pl := pl) (thn (he.run pn s σ H _ I h) fun u s1 ⟨x, H1, J1, rx, a, dx, fs, ex, ea, l, q⟩ => ?_) hEval
  subst ex
  obtain rfl : u = Value.ref a := rx
  refine getmeth_ok J1 ea c hm l ?_
  exact PySem.W.callWith_K0 (first := [.ref a]) J1.kIn hm.kp (run_fnS (us := [.ref a]) (vs := [.ref a]) F hr hb (hx σ) J1 (.cons rfl .nil) q)
end
end Gm
/-! Data in the heap: rows of ints, rows of rows, grids; comprehensions over a walk, their new list told at once. -/
namespace Gm
open PySem PySem.Spec PyProof.Rows L2
abbrev Frag := PySem.W.Frag
/-! ### heaps -/
theorem same_upd {H : Hp} {p : Addr} {o : HO} (h : H p = none) : Same H (upd H p o) := fun b x e => by
  rw [upd_ne (ne_of_none e h)]
  exact e
theorem Same.seqT {K : Frag} {H H' : Hp} {a : Addr} {xs : List V} (e : Same H H') (h : SqT K H a xs) : SqT K H' a xs := by
  rcases h with (h | ⟨o, h⟩) | h
  · exact .inl (.inl (e _ _ h))
  · exact .inl (.inr ⟨o, e _ _ h⟩)
  · exact .inr h
/-- all but D is as it was -/
def Off (D : Addr) (H H' : Hp) : Prop := ∀ b o, b ≠ D → H b = some o → H' b = some o
theorem Same.off {D : Addr} {H H' : Hp} (e : Same H H') : Off D H H' := fun b o _ h => e b o h
theorem Off.upd {D : Addr} {H : Hp} {o : HO} : Off D H (upd H D o) := fun b u n e => by rw [upd_ne n]; exact e
theorem Off.trans {D : Addr} {H H1 H2 : Hp} (a : Off D H H1) (b : Off D H1 H2) : Off D H H2 := fun c o n h => b c o n (a c o n h)
theorem Off.same {D : Addr} {H H1 H2 : Hp} (hD : H D = none) (a : Same H H1) (b : Off D H1 H2) : Same H H2 := fun c o h => b c o (ne_of_none h hD) (a c o h)
/-- a tuple stands through what happens at a list -/
theorem sqT_off {K : Frag} {H H' : Hp} {a D : Addr} {acc xs : List V} (hD : H D = some (.lst acc)) (e : Off D H H') (h : SqT K H a xs) : SqT K H' a xs := by
  rcases h with (h | ⟨o, h⟩) | h
  · exact .inl (.inl (e _ _ (ne_of h hD (by intro z; cases z)) h))
  · exact .inl (.inr ⟨o, e _ _ (ne_of h hD (by intro z; cases z)) h⟩)
  · exact .inr h
/-! ### a list or tuple -/
def Seq (K : Frag) (H : Hp) (a : Addr) (xs : List V) : Prop := SqL K H a xs ∨ SqT K H a xs
theorem Seq.same {K : Frag} {H H' : Hp} {a : Addr} {xs : List V} (e : Same H H') (h : Seq K H a xs) : Seq K H' a xs := h.elim (fun h => .inl (Same.seq e h)) fun h => .inr (Same.seqT e h)
/-! ### rows of ints, rows of rows -/
/-- a tuple of ints -/
def TRow (K : Frag) (H : Hp) (v : V) (ns : List Int) : Prop := ∃ a, v = .ref a ∧ SqT K H a (ns.map V.int)
/-- a list or tuple of ints -/
def IRow (K : Frag) (H : Hp) (v : V) (ns : List Int) : Prop := ∃ a, v = .ref a ∧ Seq K H a (ns.map V.int)
/-- a tuple of tuples of ints -/
def TRows (K : Frag) (H : Hp) (v : V) (m : List (List Int)) : Prop := ∃ a vs, v = .ref a ∧ SqT K H a vs ∧ Paired (TRow K H) vs m
/-- lists or tuples of such -/
def IRows (K : Frag) (H : Hp) (v : V) (m : List (List Int)) : Prop := ∃ a vs, v = .ref a ∧ Seq K H a vs ∧ Paired (IRow K H) vs m
section
variable {K : Frag} {H H' : Hp} {v : V} {ns : List Int} {m : List (List Int)} {D : Addr} {acc : List V}
theorem TRow.same (e : Same H H') (h : TRow K H v ns) : TRow K H' v ns := let ⟨a, x, s⟩ := h; ⟨a, x, Same.seqT e s⟩
theorem TRow.off (hD : H D = some (.lst acc)) (e : Off D H H') (h : TRow K H v ns) : TRow K H' v ns := let ⟨a, x, s⟩ := h; ⟨a, x, sqT_off hD e s⟩
theorem IRow.same (e : Same H H') (h : IRow K H v ns) : IRow K H' v ns := let ⟨a, x, s⟩ := h; ⟨a, x, s.same e⟩
theorem TRow.row (h : TRow K H v ns) : IRow K H v ns := let ⟨a, x, s⟩ := h; ⟨a, x, .inr s⟩
theorem TRows.same (e : Same H H') (h : TRows K H v m) : TRows K H' v m := let ⟨a, vs, x, s, p⟩ := h; ⟨a, vs, x, Same.seqT e s, L2.Paired.mapP p fun _ _ => TRow.same e⟩
theorem TRows.off (hD : H D = some (.lst acc)) (e : Off D H H') (h : TRows K H v m) : TRows K H' v m := let ⟨a, vs, x, s, p⟩ := h; ⟨a, vs, x, sqT_off hD e s, L2.Paired.mapP p fun _ _ => TRow.off hD e⟩
theorem IRows.same (e : Same H H') (h : IRows K H v m) : IRows K H' v m := let ⟨a, vs, x, s, p⟩ := h; ⟨a, vs, x, s.same e, L2.Paired.mapP p fun _ _ => IRow.same e⟩
theorem TRows.rows (h : TRows K H v m) : IRows K H v m := let ⟨a, vs, x, s, p⟩ := h; ⟨a, vs, x, .inr s, L2.Paired.mapP p fun _ _ => TRow.row⟩
end
theorem Paired.getL {α β : Type} {F : α → β → Prop} : ∀ {l₁ : List α} {l₂ : List β} {i : Nat} {b : β}, Paired F l₁ l₂ → l₂[i]? = some b → ∃ a, l₁[i]? = some a ∧ F a b
  | _, _, _, _, .nil, e => by simp at e
  | _, _, 0, _, .cons r _, e => by simp at e; subst e; exact ⟨_, rfl, r⟩
  | _, _, i + 1, b, .cons _ t, e => by
    obtain ⟨u, h1, h2⟩ := Paired.getL (i := i) (b := b) t (by simpa using e)
    exact ⟨u, by simpa using h1, h2⟩
theorem Paired.getR {α β : Type} {F : α → β → Prop} : ∀ {l₁ : List α} {l₂ : List β} {i : Nat} {a : α}, Paired F l₁ l₂ → l₁[i]? = some a → ∃ b, l₂[i]? = some b ∧ F a b
  | _, _, _, _, .nil, e => by simp at e
  | _, _, 0, _, .cons r _, e => by simp at e; subst e; exact ⟨_, rfl, r⟩
  | _, _, i + 1, a, .cons _ t, e => by
    obtain ⟨u, h1, h2⟩ := Paired.getR (i := i) (a := a) t (by simpa using e)
    exact ⟨u, by simpa using h1, h2⟩
theorem Paired.mapR {α β γ : Type} {F : α → β → Prop} {G : α → γ → Prop} (f : β → γ) (h : ∀ a b, F a b → G a (f b)) : ∀ {l₁ : List α} {l₂ : List β}, Paired F l₁ l₂ → Paired G l₁ (l₂.map f)
  | _, _, .nil => .nil
  | _, _, .cons r t => .cons (h _ _ r) (Paired.mapR f h t)
theorem Paired.swap {α β : Type} {F : α → β → Prop} : ∀ {l₁ : List α} {l₂ : List β}, Paired F l₁ l₂ → Paired (fun b a => F a b) l₂ l₁
  | _, _, .nil => .nil
  | _, _, .cons r t => .cons r (Paired.swap t)
/-- ints alone -/
theorem paired_ints : ∀ {vs : List V} {ns : List Int}, Paired (fun v n => v = V.int n) vs ns → vs = ns.map V.int
  | _, _, .nil => rfl
  | _, _, .cons r t => by rw [List.map_cons, ← r, ← paired_ints t]
theorem paired_bls : ∀ {vs : List V} {ns : List Bool}, Paired (fun v n => v = V.bl n) vs ns → vs = ns.map V.bl
  | _, _, .nil => rfl
  | _, _, .cons r t => by rw [List.map_cons, ← r, ← paired_bls t]
theorem ints_get {ns : List Int} {i : Nat} {v : V} (h : (ns.map V.int)[i]? = some v) : ∃ n, ns[i]? = some n ∧ v = .int n := by
  rw [List.getElem?_map] at h
  cases e : ns[i]? with
  | none => rw [e] at h; cases h
  | some n => rw [e] at h; exact ⟨n, rfl, (Option.some.inj h).symm⟩
theorem ints_at {ns : List Int} {i : Nat} {n : Int} (h : ns[i]? = some n) : (ns.map V.int)[i]? = some (.int n) := by
  rw [List.getElem?_map, h]
  rfl
/-! ### walks of a list or tuple: one reading for both -/
/-- R of every walk of the n items told by Y, while a's content stands -/
def Walked (n : Nat) (Y : Nat → Hp → V → Hp → Prop) (as : List Addr) (R : It → Hp → Prop) (H1 : Hp) : Prop := ∀ (J : It) (G : Hp → Prop), Walk J n G Y → (∀ H, (∀ a ∈ as, ∀ o, H1 a = some o → H a = some o) → G H) → R J H1
theorem sqL_at {K : Frag} {H H' : Hp} {a : Addr} {xs : List V} (h : SqL K H a xs) (e : ∀ o, H a = some o → H' a = some o) : SqL K H' a xs := by
  rcases h with (h | ⟨o, h⟩) | h
  · exact .inl (.inl (e _ h))
  · exact .inl (.inr ⟨o, e _ h⟩)
  · exact .inr h
theorem sqT_at {K : Frag} {H H' : Hp} {a : Addr} {xs : List V} (h : SqT K H a xs) (e : ∀ o, H a = some o → H' a = some o) : SqT K H' a xs := by
  rcases h with (h | ⟨o, h⟩) | h
  · exact .inl (.inl (e _ h))
  · exact .inl (.inr ⟨o, e _ h⟩)
  · exact .inr h
section
variable {X : Cx} {tg e e2 : Expr} {te : TE} {ta : TA} {p pos tpos : Pos} {elts : List Expr} {kk : Nat}
def iSeq (K : Frag) (tl : TE) : TI := fun σ H R => tl σ H fun x H1 => ∃ a xs, x = .ref a ∧ Seq K H1 a xs ∧ Walked xs.length (YAt xs) [a] R H1
theorem pi_seq (hl : PE X e te) : PI X tg e (iSeq X.K te) := by
  refine ⟨fun pn s σ H R I h => ?_⟩
  refine thn (hl.run pn s σ H _ I h) fun v s1 ⟨x, H1, J1, rel1, post1⟩ => ?_
  obtain ⟨a, xs, e, hq, q⟩ := post1
  subst e
  cases rel1
  have fin : ∀ b ∈ [s1.heap.objs.size], FpOk X pn H1 b := fun b hb => by
    have e : b = s1.heap.objs.size := by simpa using hb
    subst e
    exact J1.fpOk (Nat.le_refl _) (J1.hok.fresh (Nat.le_refl _))
  rcases hq with hq | hq
  · obtain ⟨vals, hvals, p, hLen⟩ := J1.list hq
    refine wpAny_pyIter_list p.isList ?_
    exact ⟨s1.heap.objs.size, [s1.heap.objs.size], _, _, H1, rfl, J1.kept (t' := s1.toks) fun b o e => Heap.get?_push_of_some _ e, turn_list a _, ⟨_, Heap.get?_push_size _ rfl, rfl, rfl⟩, fin, q _ _ walk_list fun H e => sqL_at hq (e a (by simp))⟩
  · obtain ⟨vals, hvals, p, hLen⟩ := J1.tuple hq
    refine wpAny_pyIter_tuple (show s1.heap.IsTuple a vals.toArray from p) ?_
    exact ⟨s1.heap.objs.size, [s1.heap.objs.size], _, _, H1, rfl, J1.kept (t' := s1.toks) fun b o e => Heap.get?_push_of_some _ e, turn_tuple a _, ⟨_, Heap.get?_push_size _ rfl, rfl, rfl⟩, fin, q _ _ walk_tup fun H e => sqT_at hq (e a (by simp))⟩
def iEnumS (K : Frag) (ta : TA) : TI := fun σ H R => ta σ H fun vs H1 => ∃ a xs, vs = [.ref a] ∧ Seq K H1 a xs ∧ Walked xs.length (YPair (fun i => some (.int (i : Nat))) (fun i => xs[i]?)) [a] R H1
theorem pi_enumS (hg : Gl X "enumerate") (hm : X.mg "enumerate" = none) (ha : PA X [e] ta) (hs : starEach [e] X.env = [(false, eval e X.env)] := by rfl) :
    PI X (.Tuple elts kk tpos) (.Call (.Name "enumerate" p) [e] [] pos) (iEnumS X.K ta) := by
  refine ⟨fun pn s σ H R I h => ?_⟩
  refine Call_ (ld_blt I hg hm boot_enumerate (PyProof.Rows.callWith_type1 (thn (ha.run pos pn s σ H _ I h) fun us s1 ⟨vs, H1, J1, rel1, post1⟩ => ?_) hs rfl))
  obtain ⟨a, xs, ex, hq, q⟩ := post1
  subst ex
  cases rel1 with
  | cons r rr =>
    cases rr
    cases r
    have fin : ∀ b ∈ [s1.heap.objs.size + 1, s1.heap.objs.size], s1.heap.objs.size ≤ b := fun b hb => by
      have ee : b = s1.heap.objs.size + 1 ∨ b = s1.heap.objs.size := by simpa using hb
      rcases ee with z | z
      · rw [z]; exact Nat.le_add_right _ _
      · rw [z]; exact Nat.le_refl _
    rcases hq with hq | hq
    · obtain ⟨vals, hvals, p', hLen⟩ := J1.list hq
      refine call_enumerate_list p'.isList fun h' he hit hSz hk => wpAny_pyIter_enum he ?_
      have J2 : Inv X pn σ H1 { s1 with heap := h' } := J1.kept (t' := s1.toks) hk
      exact ⟨s1.heap.objs.size + 1, [s1.heap.objs.size + 1, s1.heap.objs.size], _, _, H1, rfl, J2, turn_enum a (s1.heap.objs.size + 1) s1.heap.objs.size, ⟨⟨.none, he⟩, hit, Nat.succ_ne_self _⟩, fun b hb => J1.fpOk (fin b hb) (J1.hok.fresh (fin b hb)), q _ _ walk_enum fun H e => sqL_at hq (e a (by simp))⟩
    · obtain ⟨vals, hvals, p', hLen⟩ := J1.tuple hq
      have hal : a ≠ s1.heap.objs.size := by
        obtain ⟨o, e, _⟩ := (show s1.heap.IsTuple a vals.toArray from p')
        exact Nat.ne_of_lt (Heap.lt_size e)
      refine call_enumerate_tuple (show s1.heap.IsTuple a vals.toArray from p') fun h' he hit hSz hk => wpAny_pyIter_enum he ?_
      have J2 : Inv X pn σ H1 { s1 with heap := h' } := J1.kept (t' := s1.toks) hk
      exact ⟨s1.heap.objs.size + 1, [s1.heap.objs.size + 1, s1.heap.objs.size], _, _, H1, rfl, J2, turn_enumT a (s1.heap.objs.size + 1) s1.heap.objs.size hal, ⟨⟨.none, he⟩, hit, Nat.succ_ne_self _⟩, fun b hb => J1.fpOk (fin b hb) (J1.hok.fresh (fin b hb)), q _ _ walk_enumT fun H e => sqT_at hq (e a (by simp))⟩
end
/-! ### comprehensions -/
/-- [e for x in .. if p]: the new list at D holds, for the turns with p, values in the relation Rel -/
theorem lc_gen {J : It} {n : Nat} {G : Hp → Prop} {Y : Nat → Hp → V → Hp → Prop} (w : Walk J n G Y) {g : TG} {tt : TT} {te : TE} {vs : List Nat} {σ : L2.St} {H1 : Hp} {D : Addr} {Qd : Hp → Prop}
    (hD : H1 D = none) (hn : n ≤ 1000) (hG : ∀ H, Same H1 H → G H) (p : Nat → Bool) (Rel : Nat → V → Hp → Prop)
    (mono : ∀ i v H H' acc, H D = some (.lst acc) → Off D H H' → Rel i v H → Rel i v H')
    (step : ∀ (i : Nat) (x : V) (H H' : Hp) (acc : List V) (Ko : VK) (Kn : Hp → Prop), i < n → Same H1 H → H D = some (.lst acc) → Y i H x H' → (p i = true → ∀ y H4, Same H H4 → Rel i y H4 → Ko y H4) → (p i = false → ∀ H3, Same H H3 → Kn H3) →
      g x (wipe σ vs) H' fun σ2 H2 => wipe σ2 vs = wipe σ vs ∧ tt σ2 H2 fun b H3 => if b = true then te σ2 H3 Ko else Kn H3)
    (done : ∀ H l, Same H1 H → H D = some (.lst l) → Paired (fun i v => Rel i v H) ((List.range n).filter p) l → Qd H) :
    ∃ W : Nat → Nat → Hp → Prop, (∃ m, W 0 m (upd H1 D (.lst []))) ∧ ∀ i m H, W i m H →
      (J.stop i H ∧ Qd H) ∨ (J.go i H ∧ ∃ Nx : Hp → Prop, (∀ H', Nx H' → ∃ m', m' < m ∧ W (i + 1) m' H') ∧ ∀ x H', J.yld i H x H' → g x (wipe σ vs) H' fun σ2 H2 => wipe σ2 vs = wipe σ vs ∧ tt σ2 H2 fun b H3 =>
        if b = true then te σ2 H3 fun y H4 => ∃ acc, H4 D = some (.lst acc) ∧ acc.length < sizeLine ∧ Nx (upd H4 D (.lst (acc ++ [y]))) else Nx H3) := by
  refine lc_it w (Pv := fun i H => Same H1 H ∧ ∃ l, H D = some (.lst l) ∧ Paired (fun i v => Rel i v H) ((List.range i).filter p) l) ?_ (fun i H _ h => hG H h.1) ?_ (fun H h => let ⟨s, l, e, q⟩ := h; done H l s e q)
  · exact ⟨same_upd hD, [], upd_same, .nil⟩
  · rintro i x H H' hi ⟨s, l, e, q⟩ y
    have hl : l.length ≤ i := by
      have := q.length
      have h2 : ((List.range i).filter p).length ≤ (List.range i).length := List.length_filter_le _ _
      rw [List.length_range] at h2
      omega
    refine step i x H H' l _ _ hi s e y (fun hp y H4 s4 r => ?_) fun hp H3 s3 => ?_
    · refine ⟨l, s4 _ _ e, small1000 (by omega), fun c o h => ?_, l ++ [y], upd_same, ?_⟩
      · exact Off.upd c o (ne_of_none h hD) (s4 _ _ (s _ _ h))
      · rw [List.range_succ, List.filter_append, List.filter_cons, List.filter_nil, if_pos hp]
        refine Paired.snoc (L2.Paired.mapP q fun j v r => mono j v H _ l e ?_ r) (mono i y H4 _ l (s4 _ _ e) Off.upd r)
        exact Off.trans (Same.off s4) Off.upd
    · refine ⟨fun c o h => s3 _ _ (s _ _ h), l, s3 _ _ e, ?_⟩
      rw [List.range_succ, List.filter_append, List.filter_cons, List.filter_nil, if_neg (by rw [hp]; exact Bool.false_ne_true), List.append_nil]
      exact L2.Paired.mapP q fun j v r => mono j v H _ l e (Same.off s3) r
/-- without a test -/
theorem lc_all {J : It} {n : Nat} {G : Hp → Prop} {Y : Nat → Hp → V → Hp → Prop} (w : Walk J n G Y) {g : TG} {te : TE} {vs : List Nat} {σ : L2.St} {H1 : Hp} {D : Addr} {Qd : Hp → Prop}
    (hD : H1 D = none) (hn : n ≤ 1000) (hG : ∀ H, Same H1 H → G H) (Rel : Nat → V → Hp → Prop)
    (mono : ∀ i v H H' acc, H D = some (.lst acc) → Off D H H' → Rel i v H → Rel i v H')
    (step : ∀ (i : Nat) (x : V) (H H' : Hp) (acc : List V) (Ko : VK), i < n → Same H1 H → H D = some (.lst acc) → Y i H x H' → (∀ y H4, Same H H4 → Rel i y H4 → Ko y H4) →
      g x (wipe σ vs) H' fun σ2 H2 => wipe σ2 vs = wipe σ vs ∧ te σ2 H2 Ko)
    (gm : ∀ x σ1 H (Q Q' : L2.St → Hp → Prop), (∀ σ2 H2, Q σ2 H2 → Q' σ2 H2) → g x σ1 H Q → g x σ1 H Q')
    (done : ∀ H l, Same H1 H → H D = some (.lst l) → Paired (fun i v => Rel i v H) (List.range n) l → Qd H) :
    ∃ W : Nat → Nat → Hp → Prop, (∃ m, W 0 m (upd H1 D (.lst []))) ∧ ∀ i m H, W i m H →
      (J.stop i H ∧ Qd H) ∨ (J.go i H ∧ ∃ Nx : Hp → Prop, (∀ H', Nx H' → ∃ m', m' < m ∧ W (i + 1) m' H') ∧ ∀ x H', J.yld i H x H' → g x (wipe σ vs) H' fun σ2 H2 => wipe σ2 vs = wipe σ vs ∧ tYes σ2 H2 fun b H3 =>
        if b = true then te σ2 H3 fun y H4 => ∃ acc, H4 D = some (.lst acc) ∧ acc.length < sizeLine ∧ Nx (upd H4 D (.lst (acc ++ [y]))) else Nx H3) := by
  refine lc_gen w hD hn hG (fun _ => true) Rel mono (fun i x H H' acc Ko Kn hi s e y k _ => ?_) fun H l s e q => done H l s e (by rw [List.filter_eq_self.mpr (fun _ _ => rfl)] at q; exact q)
  refine gm _ _ _ _ _ (fun σ2 H2 q => ⟨q.1, ?_⟩) (step i x H H' acc Ko hi s e y (k rfl))
  exact (show if true = true then te σ2 H2 Ko else Kn H2 from iteT q.2)
theorem gm_name {j : Nat} : ∀ (x : V) (σ1 : L2.St) (H : Hp) (Q Q' : L2.St → Hp → Prop), (∀ σ2 H2, Q σ2 H2 → Q' σ2 H2) → gName j x σ1 H Q → gName j x σ1 H Q' := fun _ _ _ _ _ h q => h _ _ q
theorem gm_pair {K : Frag} {i j : Nat} : ∀ (x : V) (σ1 : L2.St) (H : Hp) (Q Q' : L2.St → Hp → Prop), (∀ σ2 H2, Q σ2 H2 → Q' σ2 H2) → gTup K 2 (gCons (gName i) (gCons (gName j) gNil)) x σ1 H Q → gTup K 2 (gCons (gName i) (gCons (gName j) gNil)) x σ1 H Q' := by
  rintro x σ1 H Q Q' h ⟨a, xs, e, s, l, v, r, e1, v', r', e2, e3, q⟩
  exact ⟨a, xs, e, s, l, v, r, e1, v', r', e2, e3, h _ _ q⟩
/-- a pair unpacked into two slots -/
theorem g_pair {K : Frag} {i j : Nat} {T : Addr} {x y : V} {σ : L2.St} {H : Hp} {Q : L2.St → Hp → Prop} (hn : H T = none) (q : Q ((σ.set i (some x)).set j (some y)) (upd H T (.tup [x, y]))) : gTup K 2 (gCons (gName i) (gCons (gName j) gNil)) (.ref T) σ (upd H T (.tup [x, y])) Q :=
  ⟨T, [x, y], rfl, .inl (.inl upd_same), rfl, x, [y], rfl, y, [], rfl, rfl, q⟩
/-! ### list or tuple: slices -/
section
variable {X : Cx}
def rSlS (K : Frag) : V → Option Int → Option Int → Hp → VK → Prop := fun x lo hi H Q => rSlL K x lo hi H Q ∨ rSlT K x lo hi H Q
theorem sl_seq : SlR X (rSlS X.K) := sl_list.or sl_tup
end
end Gm
namespace Gm
open PySem PySem.Spec PyProof.Rows L2
theorem rIx_seq {K : Frag} {H : Hp} {a : Addr} {xs : List V} {i : Int} {v : V} {Q : VK} (hs : Seq K H a xs) (e : atI xs i = some v) (q : Q v H) : rIx K (.ref a) (.int i) H Q :=
  hs.elim (fun h => .inl ⟨a, xs, i, v, rfl, rfl, h, e, q⟩) fun h => .inr (.inl ⟨a, xs, i, v, rfl, rfl, h, e, q⟩)
end Gm
namespace Gm
open PySem PySem.Spec PyProof.Rows L2
/-! ### the layer's rules with the written part named (for a comprehension's block) -/
section
variable {X : Cx}
theorem ixS (K : Frag) (hK : X.K = K) : IxR X (rIx K) := by subst hK; exact ix_seq
theorem ixT (K : Frag) (hK : X.K = K) : IxR X (rIxT K) := by subst hK; exact ix_tup
theorem ixL (K : Frag) (hK : X.K = K) : IxR X (rIxL K) := by subst hK; exact ix_list
def rLen (K : Frag) : List V → Hp → VK → Prop := fun xs H Q => ∃ p ys, xs = [.ref p] ∧ Seq K H p ys ∧ Q (.int ys.length) H
theorem lenS (K : Frag) (hK : X.K = K) : CallR X (.builtin "len") (rLen K) := by subst hK; exact call_len_seq
theorem sumK (K : Frag) (hK : X.K = K) (hc : X.calm = true) : CallR X (.builtin "sum") (rSum K) := by subst hK; exact cr_sum hc
theorem allK (K : Frag) (hK : X.K = K) (hc : X.calm = true) : CallR X (.builtin "all") (rAll K) := by subst hK; exact cr_all hc
theorem isiK (K : Frag) (hK : X.K = K) : CallR X (.builtin "isinstance") (rIsi K) := by subst hK; exact call_isi
theorem isiTK (K : Frag) (hK : X.K = K) : CallR X (.builtin "isinstance") (rIsiT K) := by subst hK; exact call_isiT
def rTupleOf (K : Frag) : List V → Hp → VK → Prop := fun xs H Q => ∃ p ys, xs = [.ref p] ∧ ((SqL K H p ys ∧ ∀ l, H l = none → Q (.ref l) (upd H l (.tup ys))) ∨ (SqT K H p ys ∧ Q (.ref p) H))
theorem tupK (K : Frag) (hK : X.K = K) : CallR X (.type "tuple") (rTupleOf K) := by subst hK; exact call_tuple_of
def rListOf (K : Frag) : List V → Hp → VK → Prop := fun xs H Q => ∃ p ys, xs = [.ref p] ∧ Seq K H p ys ∧ ∀ l, H l = none → Q (.ref l) (upd H l (.lst ys))
theorem listK (K : Frag) (hK : X.K = K) : CallR X (.type "list") (rListOf K) := by subst hK; exact call_list_of
theorem catK (K : Frag) (hK : X.K = K) : OpR X (binaryOp .Add) (rCatA K) := by subst hK; exact op_catA
theorem slTK (K : Frag) (hK : X.K = K) : SlR X (rSlA K) := by subst hK; exact sl_tupA
theorem slLK (K : Frag) (hK : X.K = K) : SlR X (rSlL K) := by subst hK; exact sl_list
theorem slSK (K : Frag) (hK : X.K = K) : SlR X (rSlS K) := by subst hK; exact sl_seq
theorem eqDK (K : Frag) (hK : X.K = K) {k : Nat} (hr : Room k X.A) : OpR X (compareOp .Eq) (rEqD K) := by subst hK; exact op_eqD hr.units
theorem neDK (K : Frag) (hK : X.K = K) {k : Nat} (hr : Room k X.A) : OpR X (compareOp .NotEq) (rNeD K) := by subst hK; exact op_neD hr.units
variable {e e2 tg : Expr} {te ta : TE} {f : Str} {p pos tpos : Pos} {elts : List Expr} {kk : Nat} {tas : TA}
theorem fldK (K : Frag) (hK : X.K = K) (he : PE X e ta) (hb : attributeBase e f X.env (eval e X.env) = eval e X.env) : PE X (.Attribute e f pos) (tFld K ta f) := by subst hK; exact pe_fld he hb
theorem piS (K : Frag) (hK : X.K = K) (he : PE X e te) : PI X tg e (iSeq K te) := by subst hK; exact pi_seq he
/-- a tuple alone -/
theorem piEnum (K : Frag) (hK : X.K = K) (hg : Gl X "enumerate") (hm : X.mg "enumerate" = none) (ha : PA X [e] tas) (hs : starEach [e] X.env = [(false, eval e X.env)] := by rfl) :
    PI X (.Tuple elts kk tpos) (.Call (.Name "enumerate" p) [e] [] pos) (iEnumS K tas) := by subst hK; exact pi_enumS hg hm ha hs
def iZipT (K : Frag) (ta : TA) : TI := fun σ H R => ta σ H fun vs H1 => ∃ a b xs ys, vs = [.ref a, .ref b] ∧ SqT K H1 a xs ∧ SqT K H1 b ys ∧ R (RZ.ItzT K a b) H1
theorem piZipT (K : Frag) (hK : X.K = K) (hg : Gl X "zip") (hm : X.mg "zip" = none) (ha : PA X [e, e2] tas)
    (mono : ∀ σ H (Q Q' : List V → Hp → Prop), (∀ vs H, Q vs H → Q' vs H) → tas σ H Q → tas σ H Q')
    (hs : starEach [e, e2] X.env = (false, eval e X.env) :: starEach [e2] X.env := by rfl) (hpl : (backTo pos (starEach [e2] X.env)).any (·.1) = false := by rfl) :
    PI X (.Tuple elts kk tpos) (.Call (.Name "zip" p) [e, e2] [] pos) (iZipT K tas) := by
  subst hK
  refine ⟨fun pn s σ H R I h => (RZ.pi_zipA hg hm ha hs hpl).run pn s σ H R I (mono σ H _ _ (fun vs H1 q => ?_) h)⟩
  obtain ⟨a, b, xs, ys, e, h1, h2, q⟩ := q
  exact ⟨a, b, xs, ys, e, .inr ⟨h1, h2, q⟩⟩
end
end Gm
namespace Gm
open PySem PySem.Spec PyProof.Rows L2
theorem paired_true : ∀ {is : List Nat} {l : List V}, Paired (fun (_ : Nat) v => v = V.bl true) is l → l = (List.replicate l.length true).map V.bl
  | _, _, .nil => rfl
  | _, _, .cons r t => by
    rw [List.length_cons, List.replicate_succ, List.map_cons, ← r, ← paired_true t]
theorem all_true (n : Nat) : (List.replicate n true).all id = true := by
  induction n with
  | zero => rfl
  | succ n ih => rw [List.replicate_succ, List.all_cons, ih] <;> rfl
/-- values in relation with the items of a list, by place -/
theorem paired_at {α : Type} {F : V → α → Prop} {m : List α} : ∀ {n : Nat} {l : List V}, n = m.length → Paired (fun (i : Nat) v => ∃ x, m[i]? = some x ∧ F v x) (List.range n) l → Paired F l m := by
  intro n l hn h
  subst hn
  have key : ∀ (is : List Nat) (l : List V) (xs : List α), Paired (fun (i : Nat) v => ∃ x, m[i]? = some x ∧ F v x) is l → is.map (fun i => m[i]?) = xs.map some → Paired F l xs := by
    intro is l xs h
    induction h generalizing xs with
    | nil =>
      intro e
      cases xs with
      | nil => exact .nil
      | cons a b => cases e
    | cons r t ih =>
      intro e
      cases xs with
      | nil => cases e
      | cons a b =>
        rw [List.map_cons, List.map_cons] at e
        obtain ⟨x, ex, fx⟩ := r
        have e1 := (List.cons.inj e).1
        have e2 := (List.cons.inj e).2
        rw [ex] at e1
        cases e1
        exact .cons fx (ih b e2)
  refine key _ l m h ?_
  apply List.ext_getElem?
  intro i
  rw [List.getElem?_map, List.getElem?_map]
  by_cases hi : i < m.length
  · rw [List.getElem?_range hi, List.getElem?_eq_getElem hi]
    exact congrArg some (List.getElem?_eq_getElem hi)
  · rw [List.getElem?_eq_none (by simpa using hi), List.getElem?_eq_none (by omega)]
    rfl
end Gm
namespace Gm
open PySem PySem.Spec PyProof.Rows L2
section
variable {K : Frag} {H : Hp} {a b : Addr} {xs ys : List V} {Q : VK}
theorem cut_take (xs : List V) (j : Nat) : cutV xs none (some (j : Int)) = xs.take j := by
  unfold cutV
  rw [HT.sIx_none, HT.sIx_nat, List.drop_zero, Nat.sub_zero]
  by_cases h : j ≤ xs.length
  · rw [Nat.min_eq_left h]
  · rw [Nat.min_eq_right (by omega), List.take_length, List.take_of_length_le (by omega)]
theorem cut_drop (xs : List V) (j : Nat) : cutV xs (some (j : Int)) none = xs.drop j := by
  unfold cutV
  rw [HT.sIx_none, HT.sIx_nat]
  by_cases h : j ≤ xs.length
  · rw [Nat.min_eq_left h, List.take_of_length_le (by rw [List.length_drop]; exact Nat.le_refl _)]
  · rw [Nat.min_eq_right (by omega), Nat.sub_self, List.take_zero, List.drop_of_length_le (by omega)]
theorem slA_take (h : SqT K H a xs) (j : Nat) (q : ∀ p H', Same H H' → SqT K H' p (xs.take j) → Q (.ref p) H') : rSlA K (.ref a) none (some (j : Int)) H Q := by
  refine ⟨a, xs, rfl, h, fun e => ?_, fun _ p np => ?_⟩
  · have e2 : min j xs.length = xs.length := by
      have := e.2
      rw [HT.sIx_nat] at this
      exact this
    refine q a H (Same.refl _) ?_
    rw [List.take_of_length_le (by omega)]
    exact h
  · exact q p _ (same_upd np) (.inl (.inl (by rw [upd_same, cut_take])))
theorem slA_drop (h : SqT K H a xs) (j : Nat) (q : ∀ p H', Same H H' → SqT K H' p (xs.drop j) → Q (.ref p) H') : rSlA K (.ref a) (some (j : Int)) none H Q := by
  refine ⟨a, xs, rfl, h, fun e => ?_, fun _ p np => ?_⟩
  · have e2 : min j xs.length = 0 := by
      have := e.1
      rw [HT.sIx_nat] at this
      exact this
    refine q a H (Same.refl _) ?_
    by_cases hj : j = 0
    · rw [hj]
      exact h
    · have : xs = [] := List.eq_nil_of_length_eq_zero (by omega)
      rw [this] at h ⊢
      simpa using h
  · exact q p _ (same_upd np) (.inl (.inl (by rw [upd_same, cut_drop])))
theorem catA (hx : SqT K H a xs) (hy : SqT K H b ys) (hl : xs.length + ys.length ≤ 1000) (q : ∀ p H', Same H H' → SqT K H' p (xs ++ ys) → Q (.ref p) H') : rCatA K (.ref a) (.ref b) H Q := by
  refine ⟨a, b, xs, ys, rfl, rfl, hx, hy, Nat.le_of_lt (small1000 hl), fun e => ?_, fun _ e => ?_, fun _ _ p np => ?_⟩
  · subst e
    exact q b H (Same.refl _) hy
  · subst e
    refine q a H (Same.refl _) ?_
    rw [List.append_nil]
    exact hx
  · exact q p _ (same_upd np) (.inl (.inl upd_same))
end
/-- lists of ints, apart from D: a list of such lists is a matrix -/
theorem lists_rows {K : Frag} {H : Hp} {D : Addr} {l : List V} {m : List (List Int)} {n : Nat} (hn : n = m.length) (e : H D = some (.lst l)) (h : Paired (fun (i : Nat) v => ∃ p, v = V.ref p ∧ p ≠ D ∧ H p = some (.lst ((m.getD i []).map V.int))) (List.range n) l) : IRows K H (.ref D) m := by
  refine ⟨D, l, rfl, .inl (.inl (.inl e)), paired_at (m := m) hn ?_⟩
  have key : ∀ (is : List Nat) (l : List V), (∀ i ∈ is, i < m.length) → Paired (fun (i : Nat) v => ∃ p, v = V.ref p ∧ p ≠ D ∧ H p = some (.lst ((m.getD i []).map V.int))) is l → Paired (fun (i : Nat) v => ∃ x, m[i]? = some x ∧ IRow K H v x) is l := by
    intro is l hi h
    induction h with
    | nil => exact .nil
    | cons r t ih =>
      obtain ⟨p, rfl, _, e⟩ := r
      have h1 := hi _ (List.mem_cons_self ..)
      refine .cons ⟨_, List.getElem?_eq_getElem h1, p, rfl, .inl (.inl (.inl ?_))⟩ (ih fun i h => hi i (List.mem_cons_of_mem _ h))
      rw [List.getD_eq_getElem?_getD, List.getElem?_eq_getElem h1] at e
      exact e
  exact key _ _ (fun i h => by rw [List.mem_range] at h; omega) h
theorem lists_mono {D : Addr} {f : Nat → List Int} (i : Nat) (v : V) (H H' : Hp) (acc : List V) (_ : H D = some (.lst acc)) (o : Off D H H') (h : ∃ p, v = V.ref p ∧ p ≠ D ∧ H p = some (.lst ((f i).map V.int))) : ∃ p, v = V.ref p ∧ p ≠ D ∧ H' p = some (.lst ((f i).map V.int)) :=
  let ⟨p, e, n, h⟩ := h
  ⟨p, e, n, o _ _ n h⟩
/-- ints by place -/
theorem ints_list {l : List V} {ns : List Int} {n : Nat} (hn : n = ns.length) (h : Paired (fun (i : Nat) v => ∃ x, ns[i]? = some x ∧ v = V.int x) (List.range n) l) : l = ns.map V.int := paired_ints (paired_at hn h)
end Gm
namespace Gm
open PySem PySem.Spec PyProof.Rows L2
theorem tyes_of {σ : L2.St} {H : Hp} {q : Hp → Prop} {r : Hp → Prop} (h : q H) : tYes σ H fun b H3 => if b = true then q H3 else r H3 := iteT (A := q H) (B := r H) h
/-- a comprehension whose turns may change other objects: A is kept, the values are told without the heap -/
theorem lc_val {J : It} {n : Nat} {G : Hp → Prop} {Y : Nat → Hp → V → Hp → Prop} (w : Walk J n G Y) {g : TG} {te : TE} {vs : List Nat} {σ : L2.St} {H1 : Hp} {D : Addr} {Qd : Hp → Prop}
    (hn : n ≤ 1000) (A : Hp → Prop) (A0 : A (upd H1 D (.lst []))) (hG : ∀ H, A H → G H) (Au : ∀ H acc acc', A H → H D = some (.lst acc) → A (upd H D (.lst acc'))) (Rel : Nat → V → Prop)
    (step : ∀ (i : Nat) (x : V) (H H' : Hp) (acc : List V) (Ko : VK), i < n → A H → H D = some (.lst acc) → Y i H x H' → (∀ y H4, A H4 → H4 D = some (.lst acc) → Rel i y → Ko y H4) →
      g x (wipe σ vs) H' fun σ2 H2 => wipe σ2 vs = wipe σ vs ∧ te σ2 H2 Ko)
    (gm : ∀ (x : V) (σ1 : L2.St) (H : Hp) (Q Q' : L2.St → Hp → Prop), (∀ σ2 H2, Q σ2 H2 → Q' σ2 H2) → g x σ1 H Q → g x σ1 H Q')
    (done : ∀ H l, A H → H D = some (.lst l) → Paired (fun i v => Rel i v) (List.range n) l → Qd H) :
    ∃ W : Nat → Nat → Hp → Prop, (∃ m, W 0 m (upd H1 D (.lst []))) ∧ ∀ i m H, W i m H →
      (J.stop i H ∧ Qd H) ∨ (J.go i H ∧ ∃ Nx : Hp → Prop, (∀ H', Nx H' → ∃ m', m' < m ∧ W (i + 1) m' H') ∧ ∀ x H', J.yld i H x H' → g x (wipe σ vs) H' fun σ2 H2 => wipe σ2 vs = wipe σ vs ∧ tYes σ2 H2 fun b H3 =>
        if b = true then te σ2 H3 fun y H4 => ∃ acc, H4 D = some (.lst acc) ∧ acc.length < sizeLine ∧ Nx (upd H4 D (.lst (acc ++ [y]))) else Nx H3) := by
  refine lc_it w (Pv := fun i H => A H ∧ ∃ l, H D = some (.lst l) ∧ Paired (fun i v => Rel i v) (List.range i) l) ?_ (fun i H _ h => hG H h.1) ?_ (fun H h => let ⟨s, l, e, q⟩ := h; done H l s e q)
  · exact ⟨A0, [], upd_same, .nil⟩
  · rintro i x H H' hi ⟨a, l, e, q⟩ y
    have hl : l.length = i := by
      have := q.length
      rw [List.length_range] at this
      omega
    refine gm _ _ _ _ _ (fun σ2 H2 q => ⟨q.1, tyes_of q.2⟩) (step i x H H' l _ hi a e y fun y H4 a4 e4 r => ?_)
    refine ⟨l, e4, small1000 (by omega), Au _ _ _ a4 e4, l ++ [y], upd_same, ?_⟩
    rw [List.range_succ]
    exact Paired.snoc q r
theorem ixN_nat {n k : Nat} (h : k < n) : ixN n (k : Int) = some k := by
  unfold ixN
  first
    | simp [h]
    | (split <;> simp_all <;> omega)
    | omega
end Gm
namespace Gm
open PySem PySem.Spec PyProof.Rows L2
theorem vals_small {is : List Nat} {l : List V} {M : Nat} (h : Paired (fun (_ : Nat) v => ∃ z : Int, v = V.int z ∧ z.natAbs ≤ M) is l) : ∃ zs : List Int, l = zs.map V.int ∧ zs.length = is.length ∧ ∀ z ∈ zs, z.natAbs ≤ M := by
  induction h with
  | nil => exact ⟨[], rfl, rfl, fun z hLen => by cases hLen⟩
  | cons r t ih =>
    obtain ⟨z, rfl, hLen⟩ := r
    obtain ⟨zs, rfl, hl, hb⟩ := ih
    exact ⟨z :: zs, rfl, by rw [List.length_cons, List.length_cons, hl], fun y hy => by
      rcases List.mem_cons.mp hy with rfl | hy
      · exact hLen
      · exact hb y hy⟩
theorem paired_set {α β : Type} {F : α → β → Prop} {x : α} {y : β} (r : F x y) : ∀ {xs : List α} {ys : List β} (i : Nat), Paired F xs ys → Paired F (xs.set i x) (ys.set i y)
  | _, _, _, .nil => .nil
  | _, _, 0, .cons _ t => .cons r t
  | _, _, i + 1, .cons q t => .cons q (paired_set r i t)
end Gm
namespace Gm
open PySem PySem.Spec PyProof.Rows L2
theorem piT {X : Cx} {e tg : Expr} {te : TE} (K : Frag) (hK : X.K = K) (he : PE X e te) : PI X tg e (iTup K te) := by subst hK; exact pi_tup he
theorem piL {X : Cx} {e tg : Expr} {te : TE} (K : Frag) (hK : X.K = K) (he : PE X e te) : PI X tg e (iList K te) := by subst hK; exact pi_list he
end Gm
namespace Gm
open PySem PySem.Spec PyProof.Rows L2
theorem slS_drop1 {K : Frag} {H : Hp} {a : Addr} {ws : List V} {Q : VK} (hs : Seq K H a ws) (h0 : 0 < ws.length) (q : ∀ p H', Same H H' → Seq K H' p (ws.drop 1) → Q (.ref p) H') : rSlS K (.ref a) (some 1) none H Q := by
  rcases hs with hs | hs
  · exact .inl ⟨a, ws, rfl, hs, fun p np => q p _ (same_upd np) (.inl (.inl (.inl (by rw [upd_same, show (1 : Int) = ((1 : Nat) : Int) from rfl, cut_drop]))))⟩
  · refine .inr ⟨a, ws, rfl, hs, fun e => ?_, fun p np => q p _ (same_upd np) (.inr (.inl (.inl (by rw [upd_same, show (1 : Int) = ((1 : Nat) : Int) from rfl, cut_drop]))))⟩
    have := e.1
    rw [show (1 : Int) = ((1 : Nat) : Int) from rfl, HT.sIx_nat] at this
    omega
end Gm
/-! The end of a law whose promise wants that nobody looks on (// of any size), with the script's bits. -/
namespace Gm
open PySem PySem.Spec PyProof.Rows L2
section
variable {P : Program} {w : World} {K : PySem.W.Frag} {h : Heap} {a : Addr} {o : Obj} {xs : List V}
/-- the heap in the proof's words: the script alone, if the module doesn't own it -/
def scr (K : PySem.W.Frag) (a : Addr) (o : Obj) (xs : List V) : Hp := fun b => if b = a ∧ K.lookup a = none then some (.frz o (.lst xs)) else none
theorem scr_some {b : Addr} {u : HO} (e : scr K a o xs b = some u) : b = a ∧ K.lookup a = none ∧ u = .frz o (.lst xs) := by
  unfold scr at e
  split at e
  · rename_i hh
    exact ⟨hh.1, hh.2, (Option.some.inj e).symm⟩
  · cases e
theorem scr_only : Only (scr K a o xs) := fun b => by
  cases e : scr K a o xs b with
  | none => exact .inl rfl
  | some u => exact .inr ⟨o, xs, by rw [(scr_some e).2.2]⟩
theorem scr_none {b : Addr} (n : b ≠ a) : scr K a o xs b = none := if_neg fun q => n q.1
variable (ha : h.get? a = some o)
include ha
theorem scr_other {b : Addr} {o' : Obj} (e : h.get? b = some o') (n : o'.cls ≠ o.cls ∨ ∃ es ep, o'.data = .dict es ep ∧ ∀ es ep, o.data ≠ .dict es ep) : scr K a o xs b = none := by
  refine scr_none fun z => ?_
  rw [z, ha] at e
  cases e
  rcases n with n | ⟨es, ep, e1, n⟩
  · exact n rfl
  · exact n es ep e1
theorem scr_ns (hd : ∀ es ep, o.data ≠ .dict es ep) {b : Addr} {m : Str → Option Value} (q : h.Ns b m) : (hidT h (scr K a o xs)).Ns b m := by
  obtain ⟨o', es, ep, e, d, r⟩ := q
  exact ⟨o', es, ep, hidT_get e (scr_other ha e (.inr ⟨es, ep, d, hd⟩)), d, r⟩
theorem scr_in (X : K.In h) : K.In (hidT h (scr K a o xs)) := fun b o' e => hidT_get (X b o' e) (by
  cases q : scr K a o xs b with
  | none => rfl
  | some u =>
    obtain ⟨rfl, n, _⟩ := scr_some q
    rw [n] at e
    cases e)
theorem scr_seer (hd : ∀ es ep, o.data ≠ .dict es ep) (hc : o.cls ≠ .type "module") (x : h.NoSeer) : (hidT h (scr K a o xs)).NoSeer where
  statics := let ⟨mc, q, r⟩ := x.statics; ⟨mc, scr_ns ha hd q, r⟩
  mods := let ⟨mc, q, r⟩ := x.mods; ⟨mc, scr_ns ha hd q, r⟩
  imp := let ⟨mc, q, r⟩ := x.imp; ⟨mc, scr_ns ha hd q, r⟩
  main := let ⟨mg, bm, ob, q, r, e, c, d⟩ := x.main; ⟨mg, bm, ob, scr_ns ha hd q, r, hidT_get e (scr_other ha e (.inl fun z => hc (z.symm.trans c))), c, d⟩
end
theorem law_callN {P : Program} {w : World} {K : PySem.W.Frag} {mg mb : Str → Option Value} {k : Nat} {fa a : Addr} {fd : FuncData} {x : Str} {sp : Sp} {s₁ : Shared} {vs : List Value} {ns : List Int}
    (X : K.In s₁.heap) (hns : s₁.heap.Ns mainGlobals mg) (hb : s₁.heap.Ns builtinsNs mb) (hbb : ∀ x : Str, x ≠ "__name__" → mb x = bootBuiltins x) (hlim : s₁.heap.NoLimit) (hseer : s₁.heap.NoSeer) (hg : s₁.gens = #[])
    (ha : s₁.heap.get? a = some { cls := .type "list", data := .seq vs.toArray }) (hi : IntsAre vs ns) (hl : ns.length ≤ sizeLine) (hr : Room k callerA)
    (F : ∀ base : Heap, K.In base → base.Ns mainGlobals mg → base.NoSeer → FnOk P w K mg base CX0 k fa fd [x] sp) (hbind : ∀ (s : Shared) (u : Value), BindsTo s fd ⟨[u], []⟩ [(x, u)])
    (hsp : ∀ H : Hp, Only H → SqL K H a (ns.map V.int) → sp [.ref a] H (fun v _ => v = .bl true) fun _ _ _ => False) :
    codeAny (model P w) callerA (.call (.ref fa) ⟨[.ref a], []⟩) (fun r s' => r = .ok (.ret (.bool true)) ∧ OldK s₁.heap s'.heap ∧ s'.os = s₁.os ∧ AllBare s'.gens) s₁ := by
  have hd : ∀ es ep, ({ cls := .type "list", data := .seq vs.toArray } : Obj).data ≠ .dict es ep := fun es ep z => by cases z
  have rv := vals_ints hi
  generalize hHdef : scr K a { cls := .type "list", data := .seq vs.toArray } (ns.map V.int) = H
  have hO : Only H := hHdef ▸ scr_only
  have hSq : SqL K H a (ns.map V.int) := by
    cases hk : K.lookup a with
    | none => exact .inl (.inr ⟨_, by rw [← hHdef]; exact if_pos ⟨rfl, hk⟩⟩)
    | some o =>
      have e := X a o hk
      rw [ha] at e
      cases e
      exact .inr ⟨_, vs.toArray, _, hk, rfl, rfl, rfl, by rw [List.size_toArray, hi.length]; exact hl, by simpa using rv⟩
  have hok : HOk P w H s₁.heap := fun b u z => by
    rw [← hHdef] at z
    obtain ⟨rfl, _, rfl⟩ := scr_some z
    exact ⟨ha, by rw [List.length_map]; exact hl, vs, _, rv, ha⟩
  have hIn : K.In (hidT s₁.heap H) := hHdef ▸ scr_in ha X
  have hNs : ∀ {b : Addr} {m : Str → Option Value}, s₁.heap.Ns b m → (hidT s₁.heap H).Ns b m := fun q => hHdef ▸ scr_ns ha hd q
  have hSr : (hidT s₁.heap H).NoSeer := hHdef ▸ scr_seer ha hd (fun z => absurd (Value.type.inj z) (by decide)) hseer
  have e0 : Env0 P w K mg (hidT s₁.heap H) callerA [] s₁ H :=
    ⟨rfl, ⟨hIn, hNs hns, ⟨mb, hNs hb, hbb⟩, let ⟨mc, h1, h2⟩ := hlim; ⟨mc, hNs h1, h2⟩⟩, fun b o e => of_hidT e, Nat.le_of_eq (hidT_size _ _), trivial, (fun b hb => nomatch (show b ∈ ([] : List Addr) from hb)), hok, .of_eq hg⟩
  have main := (F _ hIn (hNs hns) hSr).run callerA [] s₁ H ⟨[.ref a], []⟩ [.ref a] [.ref a] _ _ hr e0 (hbind s₁ (.ref a)) (.cons rfl .nil) (hsp H hO hSq)
  refine codeAny_mono main fun r s' q => ?_
  match r, q with
  | .error e, q => exact q.elim
  | .ok .next, q => exact False.elim q
  | .ok .brk, q => exact False.elim q
  | .ok .cont, q => exact False.elim q
  | .ok (.ret u), q =>
    obtain ⟨v, H', os, bare, un, hok', rr, qv⟩ := q
    cases (show v = .bl true from qv)
    cases (show u = Value.bool true from rr)
    refine ⟨rfl, OldK.of_keep fun b o e => ?_, os, bare⟩
    cases hb' : H b with
    | none => exact un.keep b o e hb' (fun z => nomatch (show b ∈ ([] : List Addr) from z)) (by simp)
    | some u =>
      obtain ⟨ob, l, z⟩ := (hO b).resolve_left (by rw [hb']; simp)
      have e1 := (hok b _ z).1
      rw [e] at e1
      cases e1
      exact (hok' b _ (un.frzs b _ _ z)).1
theorem walk_ofN {l : PySem.W.OpenLaw} {n k : Nat} {q : Program} {loose : List Str} {XP : (Str → Option Value) → Heap → Prop} {YP : World → Heap → Prop} {d : DefRec} {K : Params → PySem.W.Frag} {sp : PySem.W.Frag → Sp} {x : Str}
    (hn : l.most = some n) (hn2 : n ≤ sizeLine) (hdf : d.params.defaults = []) (hr : Room k callerA) (hq : importsNone q = true)
    (hY : ∀ (w : World) (h : Heap), YP w h → (K w.params).In h)
    (F : ∀ (w : World) (mg : Str → Option Value) (fa : Addr) (h : Heap), YP w h → (K w.params).In h → h.Ns mainGlobals mg → mg d.name = some (.ref fa) →
      ∃ fd : FuncData, (∀ (s : Shared) (u : Value), BindsTo s fd ⟨[u], []⟩ [(x, u)]) ∧
        ∀ base : Heap, (K w.params).In base → base.Ns mainGlobals mg → base.NoSeer → FnOk l.prog w (K w.params) mg base CX0 k fa fd [x] (sp (K w.params)))
    (hsp : ∀ (K : PySem.W.Frag) (H : Hp) (a : Addr) (ns : List Int), ns.length ≤ n → (∀ z ∈ ns, Builtin.Int.intBits z ≤ 1048576) → SqL K H a (ns.map V.int) → sp K [.ref a] H (fun v _ => v = .bl true) fun _ _ _ => False) :
    PySem.W.WalkO q loose XP YP l.row.toRowW d [] (fun f vs => PySem.call f vs) := by
  refine Att.attach_callB hn hdf fun w s₀ s₁ mg mb fa o pm cd doc a vs ns G Y ho hd hcd hmg hobj hints hlen hbits hg => ?_
  have X := hY w _ Y
  obtain ⟨fd, hb, hF⟩ := F w mg fa _ Y X G.T.g hmg
  exact law_callN X G.T.g G.T.b G.T.builtins G.T.nolimit (G.T.seer hq) hg hobj hints (Nat.le_trans hlen hn2) hr hF hb fun H _ hS => hsp _ H a ns hlen hbits hS
end Gm
/-! != of an own class that has only its own == -/
namespace Gm
open PySem PySem.Spec PyProof.Rows L2
section
variable {prog : Program} {w : World} {A : Around} {E : Value → Shared → Prop} {s : Shared} {K : PySem.W.Frag} {x y C f : Addr} {ox oy : Obj} {od od' : Option Obj}
/-- the end of the def's call, turned -/
abbrev NotBack (Q : Value → Shared → Prop) : Value → Shared → Prop := fun v s' => ∃ b, v = Value.bool b ∧ Q (.bool (!b)) s'
theorem objNe_body {Q : Fin → Shared → Prop} (X : K.In s.heap) (J : PySem.W.InstAt s.heap x ox C od) (hs : PySem.W.findIn K (.ref C) "__eq__" = some (some (.ref f))) (hf : PySem.W.isFn K (.ref f) = true) (hu : A.units < cLine)
    (h : wpAny (model prog w) A (call (.ref f) [.ref x, .ref y]) (fun v s' => ∃ b, v = Value.bool b ∧ Q (.done (.ret (.bool (!b)))) s') E s) : wpAny (model prog w) A (Builtin.«object.__ne__» ⟨[.ref x, .ref y], []⟩) Q E s := by
  unfold Builtin.«object.__ne__»
  repeat (first
    | with_reducible refine wpAny_cRoomFor hu ?_
    | (refine wpAny_bind (m := callSpecialIfBound? (.ref x) (Str.ofString "__eq__") [.ref y]) (PySem.W.ifBound_K X J hs hf (wpAny_mono h (fun v s' hv => ?_) fun _ _ e => e))
       obtain ⟨b, rfl, hq⟩ := hv
       repeat (first | exact hq | exact wpAny_pure hq | exact wpAny_truthy_bool hq | (refine wpAny_bind (m := truthy (.bool _)) (wpAny_truthy_bool ?_)) | wp_step))
    | wp_step)
theorem objNe_call {Q : Value → Shared → Prop} (X : K.In s.heap) (J : PySem.W.InstAt s.heap x ox C od) (hm : PySem.W.mroIn K C (.type "object") = some true) (hs : PySem.W.findIn K (.ref C) "__eq__" = some (some (.ref f))) (hf : PySem.W.isFn K (.ref f) = true) (hu : A.units + 1 < cLine)
    (h : wpAny (model prog w) A.in1 (call (.ref f) [.ref x, .ref y]) (NotBack Q) E s) : wpAny (model prog w) A (call (.builtin "object.__ne__") [.ref x, .ref y]) Q E s := by
  refine wpAny_call (codeAny_call_builtin F.cmp_object.ne.plain F.cmpEntry_ne (PySem.W.check_slot F.cmpKind_ne F.cmpSplit_ne (J.type.andThen (PySem.W.looks_mroIn X hm)) (F.cmpArgs_ne _ _) ?_))
  exact objNe_body X J hs hf hu h
theorem objNe_bound {args : List Value} {Q : Option Value → Shared → Prop} (X : K.In s.heap) (J : PySem.W.InstAt s.heap x ox C od) (hn : PySem.W.findIn K (.ref C) "__ne__" = some (some (.builtin "object.__ne__")))
    (h : wpAny (model prog w) A (call (.builtin "object.__ne__") (.ref x :: args)) (fun v => Q (some v)) E s) : wpAny (model prog w) A (callSpecialIfBound? (.ref x) "__ne__" args) Q E s := by
  have last : wpAny (model prog w) A (call (.builtin "object.__ne__") ([.ref x] ++ args) >>= fun v => pure (some v)) Q E s := wpAny_bind (wpAny_mono h (fun _ _ z => wpAny_pure z) fun _ _ z => z)
  have bnd := F.cmp_object.ne.bind (.ref x)
  simp only [callSpecialIfBound?, bindSpecialIfBound?]
  refine wpAny_holding (wpAny_bind (wpAny_bind (wpAny_bind (J.type.here ((PySem.W.looks_findIn X hn).here (wpAny_bind (wpAny_askSetting (wpAny_ite ?_))))))))
  split
  · exact wpAny_bind (wpAny_of_eq (F.cmp_object.ne.bind _) (wpAny_pure (by exact last)))
  · exact wpAny_tryCatch (wpAny_bind (wpAny_of_eq (F.cmp_object.ne.bind _) (wpAny_pure (by exact last))))
theorem cmpNe_K {Q : Value → Shared → Prop} (X : K.In s.heap) (J : PySem.W.InstAt s.heap x ox C od) (J' : PySem.W.InstAt s.heap y oy C od') (hm : PySem.W.mroIn K C (.type "object") = some true)
    (hn : PySem.W.findIn K (.ref C) "__ne__" = some (some (.builtin "object.__ne__"))) (hs : PySem.W.findIn K (.ref C) "__eq__" = some (some (.ref f))) (hf : PySem.W.isFn K (.ref f) = true) (hu : A.units + 1 < cLine)
    (h : wpAny (model prog w) A.in1 (call (.ref f) [.ref x, .ref y]) (NotBack Q) E s) : wpAny (model prog w) A (compareOp .NotEq (.ref x) (.ref y)) Q E s := by
  show wpAny (model prog w) A (richCompare .NotEq (.ref x) (.ref y)) Q E s
  have one : wpAny (model prog w) A (tryCompare (.ref x) "__ne__" (.ref y)) (fun r s' => ∃ v, r = some v ∧ Q v s') E s := by
    unfold tryCompare
    refine wpAny_bind (objNe_bound X J hn (objNe_call X J hm hs hf hu (wpAny_mono h (fun v s' hv => ?_) fun _ _ e => e)))
    obtain ⟨b, rfl, hq⟩ := hv
    exact ⟨b, rfl, wpAny_pure ⟨_, rfl, hq⟩⟩
  unfold richCompare
  rw [cmpInfo_NotEq]
  simp only [oneThing_ref]
  refine wpAny_holding (wpAny_bind (wpAny_cRoomFor (by omega) ?_))
  refine wpAny_bind (J.type.here (wpAny_bind (J'.type.here ?_)))
  rw [show (Value.ref C != Value.ref C) = false from by simp]
  simp only [Bool.false_eq_true, if_false]
  refine wpAny_bind (wpAny_pure ?_)
  simp only [Bool.false_eq_true, if_false]
  refine wpAny_bind (wpAny_mono one (fun r s' z => ?_) fun _ _ e => e)
  obtain ⟨v, rfl, hq⟩ := z
  exact wpAny_pure hq
end
section
variable {X : Cx} {C f : Addr} {fd : FuncData} {ps : List Str} {CX : CXT} {k : Nat} {sp : Sp}
/-- a != b, both instances of one own class that defines == (its own def answers True or False) -/
def rOwnNe (C : Addr) (sp : Sp) (E : XK) : R2 := fun x y H Q => ∃ a b dx dy fs gs, x = .ref a ∧ y = .ref b ∧ H a = some (.ins C dx fs) ∧ H b = some (.ins C dy gs) ∧ sp [x, y] H (fun v H' => ∃ t, v = .bl t ∧ Q (.bl (!t)) H') E
theorem op_ownNe {E : XK} (hm : PySem.W.mroIn X.K C (.type "object") = some true) (hn : PySem.W.findIn X.K (.ref C) "__ne__" = some (some (.builtin "object.__ne__"))) (hs : PySem.W.findIn X.K (.ref C) "__eq__" = some (some (.ref f))) (hf : PySem.W.isFn X.K (.ref f) = true)
    (F : FnOk X.prog X.w X.K X.mg X.base CX k f fd ps sp) (hr : Room (k + 1) X.A) (hb : Binds X.K fd ps []) (hx : ∀ (H : Hp) (s : Shared) (e : Value) (s' : Shared), CX X.stack H s E e s' → False) : OpR X (compareOp .NotEq) (rOwnNe C sp E) := by
  intro pn sg σ H x y v u Q I rx ry h
  obtain ⟨a, b, dx, dy, fs, gs, rfl, rfl, ha, hb', q⟩ := h
  cases rx
  cases ry
  obtain ⟨od, J⟩ := inst_of I ha
  obtain ⟨od', J'⟩ := inst_of I hb'
  refine cmpNe_K I.kIn J J' hm hn hs hf (by have := hr.units; omega) ?_
  have hl := F.len _ _ _ _ q
  have rv : Vals [V.ref a, V.ref b] [Value.ref a, Value.ref b] := .cons rfl (.cons rfl .nil)
  refine wpAny_call (codeAny_mono (F.run X.A.in1 X.stack sg H ⟨[.ref a, .ref b], []⟩ [.ref a, .ref b] [.ref a, .ref b] _ E hr.in1 I.env0.in1 (by
    have := hb sg [.ref a, .ref b] I.kIn (by simpa using hl)
    simpa using this) rv q) fun r s' hq => ?_)
  cases r with
  | error e => exact (hx _ _ _ _ hq).elim
  | ok fl =>
    cases fl with
    | ret w =>
      obtain ⟨z, H', I', rz, t, ez, ex⟩ := I.after hq
      subst ez
      cases (show w = Value.bool t from rz)
      exact ⟨t, rfl, .bl (!t), H', I', rfl, ex⟩
    | next => exact False.elim hq
    | brk => exact False.elim hq
    | cont => exact False.elim hq
end
end Gm
/-! Making an object, and an own operator, that may raise: what is raised is wished for at the caller's slots. -/
namespace Gm
open PySem PySem.Spec PyProof.Rows L2
section
variable {X : Cx} {C f : Addr} {fd : FuncData} {ps : List Str} {CX : CXT} {k : Nat} {sp : Sp} {E : L2.St → XK} {x : Str} {p pos : Pos} {e : Expr} {es : List Expr} {t : TA} {dvs : List V} {ds : List Value}
def tMakeS (C : Addr) (sp : Sp) (dvs : List V) (E : L2.St → XK) (t : TA) : TE := fun σ H Q => t σ H fun vs H1 => ∀ x dx, H1 x = none → H1 dx = none → dx ≠ x → sp (.ref x :: (vs ++ dvs)) (upd (upd H1 dx (.own x)) x (.ins C dx [])) (fun v H2 => v = .non ∧ Q (.ref x) H2) (E σ)
theorem pe_makeS (M : Mk X.K C f) (F : FnOk X.prog X.w X.K X.mg X.base CX k f fd ps sp) (hr : Room (k + 1) X.A) (hg : Gl X x) (hm : X.mg x = some (.ref C)) (hb : Binds X.K fd ps ds) (hd : Vals dvs ds) (hx : ∀ σ, PassesAt CX X σ (E σ))
    (ha : PA X (e :: es) t) (hdb : (x == ("__debug__" : Str)) = false := by decide) (he : starEach (e :: es) X.env = (false, eval e X.env) :: starEach es X.env := by rfl) (hpl : (backTo pos (starEach es X.env)).any (·.1) = false := by rfl) :
    PE X (.Call (.Name x p) (e :: es) [] pos) (tMakeS C sp dvs E t) := by
  refine ⟨fun pn sh σ H Q I h => ?_⟩
  refine wpAny_Call_Name_kw (ld_glob I hg hm ?_ hdb)
  refine PySem.W.callWith_K (h₀ := X.base) I.ok.mod.kin M.kp (thn (ha.run pos pn sh σ H _ I h) fun argv sA ⟨vs, H1, J, rel, q⟩ => ⟨J.kIn, ?_⟩) he hpl
  have q0 := q (sA.heap.objs.size + 1) sA.heap.objs.size (J.hok.fresh (Nat.le_succ _)) (J.hok.fresh (Nat.le_refl _)) (Nat.ne_of_lt (Nat.lt_succ_self _))
  have J2 := Inv.made (C := C) J
  have rel2 : Vals (V.ref (sA.heap.objs.size + 1) :: (vs ++ dvs)) (Value.ref (sA.heap.objs.size + 1) :: (argv ++ ds)) := .cons rfl (rel.append hd)
  have hl : (Value.ref (sA.heap.objs.size + 1) :: argv ++ ds).length = ps.length := by
    have el := rel2.length
    rw [F.len _ _ _ _ q0] at el
    exact el.symm
  have main := F.run _ X.stack _ _ ⟨Value.ref (sA.heap.objs.size + 1) :: argv, []⟩ (Value.ref (sA.heap.objs.size + 1) :: (argv ++ ds)) _ _ (E σ) (hr.make C argv []) (J2.env0.make C argv []) (hb _ (Value.ref (sA.heap.objs.size + 1) :: argv) J2.kIn hl) rel2 q0
  refine wpAny_call (make_map (f := f) J.kIn M.makes M.init (beq_iff_eq.mp M.fn) (codeAny_mono main fun r s' z => ?_))
  match r, z with
  | .error er, z => exact hx σ pn _ _ er s' J2 z
  | .ok (.ret u), z =>
    obtain ⟨v, H', J3, rv, ev, q3⟩ := J2.after z
    subst ev
    exact ⟨rv, ⟨V.ref (sA.heap.objs.size + 1), H', J3, rfl, q3⟩⟩
  | .ok .next, z => exact False.elim z
  | .ok .brk, z => exact False.elim z
  | .ok .cont, z => exact False.elim z
end
section
variable {X : Cx} {C f : Addr} {fd : FuncData} {ps : List Str} {CX : CXT} {k : Nat} {sp : Sp} {E : L2.St → XK} {a b : Expr} {ta tb : TE} {pos : Pos}
/-- a op b of one own class, where the def may raise -/
def tOpS (C : Addr) (sp : Sp) (E : L2.St → XK) (ta tb : TE) : TE := fun σ H Q => ta σ H fun x H1 => tb σ H1 fun y H2 => ∃ c d dx dy fs gs, x = .ref c ∧ y = .ref d ∧ H2 c = some (.ins C dx fs) ∧ H2 d = some (.ins C dy gs) ∧ sp [x, y] H2 Q (E σ)
theorem pe_opS {op : Operator} (hc : PySem.W.selfFirst X.K C = true) (hs : PySem.W.findIn X.K (.ref C) (PySem.dunder op.info.2) = some (some (.ref f))) (hf : PySem.W.isFn X.K (.ref f) = true)
    (F : FnOk X.prog X.w X.K X.mg X.base CX k f fd ps sp) (hr : Room k X.A) (hb : Binds X.K fd ps []) (hx : ∀ σ, PassesAt CX X σ (E σ)) (ha : PE X a ta) (hb' : PE X b tb) : PE X (.BinOp a op b pos) (tOpS C sp E ta tb) := by
  refine ⟨fun pn sh σ H Q I h => ?_⟩
  refine wpAny_BinOp (binT ha hb' I h fun v u s2 x y H2 I2 rx ry q => ?_)
  obtain ⟨c, d, dx, dy, fs, gs, rfl, rfl, hc1, hd1, q⟩ := q
  cases rx
  cases ry
  obtain ⟨od, J⟩ := inst_of I2 hc1
  obtain ⟨od', J'⟩ := inst_of I2 hd1
  obtain ⟨m, hF⟩ := I2.fr
  refine PySem.W.binop_K hF I2.ok.mod.kin J J'.type hc hs hf ?_
  refine wpAny_mono (run_fnS (us := [.ref c, .ref d]) (vs := [.ref c, .ref d]) F hr hb (hx σ) I2 (.cons rfl (.cons rfl .nil)) q) (fun w s' z => ?_) fun _ _ z => z
  obtain ⟨zR, HR, IR, relZ, postZ⟩ := z
  exact SlX.cmpback relZ ⟨zR, HR, IR, relZ, postZ⟩
end
end Gm
/-! list(zip(xs, ys)) of two tuples. -/
namespace Gm
open PySem PySem.Spec PyProof.Rows L2 RZ
abbrev ZipF (h : Heap) (z TI TO T0 : Addr) (f : Bool) : Prop :=
  h.get? z = some { cls := .type "zip", dict := none, data := .fields #[rawInt T0, .bool f, .bool false, .ref TI, .ref TO], slots := #[] }
section
variable {prog : Program} {w : World} {A : Around} {E : Value → Shared → Prop} {s : Shared}
theorem zip_busy {z TI TO T0 : Addr} {f : Bool} {oT : Obj} {Q : Bool → Shared → Prop} (hz : ZipF s.heap z TI TO T0 f) (hT : s.heap.get? T0 = some oT)
    (q : ∀ h', ZipF h' z TI TO T0 true → Heap.SameBut z s.heap h' → Q false { s with heap := h' }) : wpAny (model prog w) A (Builtin.SmallTypes.ownedTupleIsFree (.ref z)) Q E s := by
  unfold Builtin.SmallTypes.ownedTupleIsFree
  refine wpAny_bind (wpAny_field hz rfl (x := rawInt T0) rfl ?_)
  show wpAny _ _ (loadIfAlive ((T0 : Int)).toNat >>= _) _ _ _
  rw [Int.toNat_natCast]
  refine wpAny_bind (PySem.W.kdx_alive hT ?_)
  simp only [Option.isNone_some, Bool.false_eq_true, if_false]
  refine wpAny_bind (wpAny_field hz rfl (x := .bool f) rfl ?_)
  cases f with
  | false =>
    rw [if_pos (by decide)]
    refine wpAny_bind (wpAny_setField_rec hz (by simp) fun h1 hz1 hs1 => wpAny_pure (q h1 hz1 hs1))
  | true =>
    rw [if_neg (by decide)]
    exact wpAny_pure (q s.heap hz ⟨rfl, fun _ _ => rfl⟩)
theorem zipT_busy_item {z TI TO T0 i1 i2 l1 l2 : Addr} {f : Bool} {oT : Obj} {k1 k2 : Nat} {xs ys : Array Value} {x y : Value} {Q : Value → Shared → Prop} (D : ZipApart z TI TO i1 i2 l1 l2)
    (hz : ZipF s.heap z TI TO T0 f) (hT : s.heap.get? T0 = some oT) (hTI : IsPair s.heap TI (.ref i1) (.ref i2))
    (h1 : s.heap.IsTupleIter i1 l1 k1) (h2 : s.heap.IsTupleIter i2 l2 k2) (hl1 : s.heap.IsTuple l1 xs) (hl2 : s.heap.IsTuple l2 ys) (hx : xs[k1]? = some x) (hy : ys[k2]? = some y)
    (hQ : ∀ h', ZipF h' z TI TO T0 true → h'.IsTupleIter i1 l1 (k1 + 1) → h'.IsTupleIter i2 l2 (k2 + 1) → IsPair h' s.heap.objs.size x y → h'.objs.size = s.heap.objs.size + 1 →
      (∀ c o, c ≠ z → c ≠ i1 → c ≠ i2 → s.heap.get? c = some o → h'.get? c = some o) → Q (.ref s.heap.objs.size) { s with heap := h' }) :
    wpAny (model prog w) A (Builtin.«zip.__next__» ⟨[.ref z], []⟩) (fun fin s' => ∃ v, fin = .done (.ret v) ∧ Q v s') E s := by
  show wpAny _ _ (field (.ref z) 2 >>= _) _ _ _
  refine wpAny_bind (wpAny_field hz rfl (x := .bool false) rfl ?_)
  show wpAny _ _ (field (.ref z) 3 >>= _) _ _ _
  refine wpAny_bind (wpAny_field hz rfl (x := .ref TI) rfl ?_)
  refine wpAny_bind (wpAny_seqItems hTI rfl ?_)
  show wpAny _ _ (Builtin.SmallTypes.ownedTupleIsFree (.ref z) >>= _) _ _ _
  refine wpAny_bind (zip_busy hz hT fun g1 hz1 hs1 => ?_)
  simp only [Bool.false_eq_true, if_false]
  refine wpAny_bind ?_
  rw [← Array.forIn_toList]
  simp only [List.forIn_cons, List.forIn_nil]
  refine wpAny_bind (wpAny_bind (wpAny_holding ?_))
  show wpAny _ _ (Builtin.SmallTypes.nextOf (.ref i1) >>= _) _ _ _
  refine wpAny_bind (nextOf_tuple_item (h1.extBut hs1.extBut D.i1z) (hl1.extBut hs1.extBut D.l1z) hx fun g2 h12 hs2 => wpAny_pure ?_)
  refine wpAny_pure ?_
  dsimp only
  refine wpAny_bind (wpAny_bind (wpAny_holding ?_))
  show wpAny _ _ (Builtin.SmallTypes.nextOf (.ref i2) >>= _) _ _ _
  refine wpAny_bind (nextOf_tuple_item ((h2.extBut hs1.extBut D.i2z).extBut hs2.extBut D.i12.symm) ((hl2.extBut hs1.extBut D.l2z).extBut hs2.extBut D.l2i1) hy fun g3 h23 hs3 => wpAny_pure ?_)
  refine wpAny_pure ?_
  dsimp only
  refine wpAny_pure ?_
  dsimp only
  refine wpAny_bind (wpAny_newTuple ?_ (by show 2 ≤ sizeLine; decide))
  have hsz : g3.objs.size = s.heap.objs.size := by rw [hs3.1, hs2.1, hs1.1]
  have hz3 : ZipF g3 z TI TO T0 true := hs3.extBut _ _ D.i2z.symm (hs2.extBut _ _ D.i1z.symm hz1)
  have hk3 : ∀ c o, c ≠ z → c ≠ i1 → c ≠ i2 → s.heap.get? c = some o → g3.get? c = some o := fun c o c1 c2 c3 e => hs3.extBut _ _ c3 (hs2.extBut _ _ c2 (hs1.extBut _ _ c1 e))
  have h13 : g3.IsTupleIter i1 l1 (k1 + 1) := h12.extBut hs3.extBut D.i12
  refine wpAny_pure ⟨_, rfl, ?_⟩
  show Q (.ref g3.objs.size) _
  have hT3 : IsPair (g3.push { cls := .type "tuple", data := .seq #[x, y] }) g3.objs.size x y := Heap.get?_push_size _ rfl
  have up : ∀ c o, g3.get? c = some o → (g3.push { cls := .type "tuple", data := .seq #[x, y] }).get? c = some o := fun c o e => Heap.get?_push_of_some _ e
  rw [hsz] at hT3 ⊢
  exact hQ _ (up _ _ hz3) (h13.at fun o e => up _ o e) (h23.at fun o e => up _ o e) hT3 (by rw [Heap.size_push, hsz]) fun c o c1 c2 c3 e => up c o (hk3 c o c1 c2 c3 e)
theorem zipT_busy_end {z TI TO T0 i1 i2 l1 l2 : Addr} {f : Bool} {oT : Obj} {k1 : Nat} {xs : Array Value} {Q : Fin → Shared → Prop} (hh : A.handled = none) (D : ZipApart z TI TO i1 i2 l1 l2)
    (hz : ZipF s.heap z TI TO T0 f) (hT : s.heap.get? T0 = some oT) (hTI : IsPair s.heap TI (.ref i1) (.ref i2))
    (h1 : s.heap.IsTupleIter i1 l1 k1) (hl1 : s.heap.IsTuple l1 xs) (hend : xs[k1]? = none)
    (hE : ∀ h' e, (∀ c o, c ≠ z → c ≠ i1 → s.heap.get? c = some o → h'.get? c = some o) → (∃ o, h'.get? e = some o ∧ o.cls = .type "StopIteration") → E (.ref e) { s with heap := h' }) :
    wpAny (model prog w) A (Builtin.«zip.__next__» ⟨[.ref z], []⟩) Q E s := by
  show wpAny _ _ (field (.ref z) 2 >>= _) _ _ _
  refine wpAny_bind (wpAny_field hz rfl (x := .bool false) rfl ?_)
  show wpAny _ _ (field (.ref z) 3 >>= _) _ _ _
  refine wpAny_bind (wpAny_field hz rfl (x := .ref TI) rfl ?_)
  refine wpAny_bind (wpAny_seqItems hTI rfl ?_)
  show wpAny _ _ (Builtin.SmallTypes.ownedTupleIsFree (.ref z) >>= _) _ _ _
  refine wpAny_bind (zip_busy hz hT fun g1 hz1 hs1 => ?_)
  simp only [Bool.false_eq_true, if_false]
  refine wpAny_bind ?_
  rw [← Array.forIn_toList]
  simp only [List.forIn_cons, List.forIn_nil]
  refine wpAny_bind (wpAny_bind (wpAny_holding ?_))
  show wpAny _ _ (Builtin.SmallTypes.nextOf (.ref i1) >>= _) _ _ _
  refine wpAny_bind (nextOf_tuple_end hh (h1.extBut hs1.extBut D.i1z) (hl1.extBut hs1.extBut D.l1z) hend ?_)
  intro h' e ext he
  exact hE h' e (fun c o c1 c2 x => ext c o c2 (hs1.extBut c o c1 x)) he
/-- the zip's cells before its turn i -/
def ZS (h : Heap) (z TI TO i1 i2 l1 l2 : Addr) (i : Nat) : Prop :=
  IsPair h TI (.ref i1) (.ref i2) ∧ h.IsTupleIter i1 l1 i ∧ h.IsTupleIter i2 l2 i ∧ ((IsZip h z TI TO .none ∧ ∃ a b, IsPair h TO a b) ∨ ∃ T0 f oT, ZipF h z TI TO T0 f ∧ h.get? T0 = some oT)
theorem ZS.ty {z TI TO i1 i2 l1 l2 : Addr} {i : Nat} {h : Heap} (st : ZS h z TI TO i1 i2 l1 l2 i) : ∃ o, h.get? z = some o ∧ o.cls = .type "zip" := by
  obtain ⟨_, _, _, ⟨hz, _⟩ | ⟨_, _, _, hz, _⟩⟩ := st
  · exact ⟨_, hz, rfl⟩
  · exact ⟨_, hz, rfl⟩
theorem zip_item {z TI TO i1 i2 l1 l2 : Addr} {i : Nat} {xs ys : Array Value} {x y : Value} {Q : Option Value → Shared → Prop} (D : ZipApart z TI TO i1 i2 l1 l2) (st : ZS s.heap z TI TO i1 i2 l1 l2 i)
    (hl1 : s.heap.IsTuple l1 xs) (hl2 : s.heap.IsTuple l2 ys) (hx : xs[i]? = some x) (hy : ys[i]? = some y)
    (hQ : ∀ h', ZS h' z TI TO i1 i2 l1 l2 (i + 1) → IsPair h' s.heap.objs.size x y → h'.objs.size = s.heap.objs.size + 1 →
      (∀ c o, c ≠ z → c ≠ TO → c ≠ i1 → c ≠ i2 → s.heap.get? c = some o → h'.get? c = some o) → Q (some (.ref s.heap.objs.size)) { s with heap := h' }) :
    wpAny (model prog w) A (pyNext (.ref z)) Q E s := by
  have hTy : s.TypeIs (.ref z) "zip" := st.ty
  obtain ⟨hTI, h1, h2, ⟨hz, a, b, hTO⟩ | ⟨T0, f, oT, hz, hT0⟩⟩ := st
  · refine pyNext_zipT_item D hz hTI hTO h1 h2 hl1 hl2 hx hy fun h' z' TO' h1' h2' hT hsz hk => ?_
    exact hQ h' ⟨hk _ _ D.TIz D.TITO D.TIi1 D.TIi2 hTI, h1', h2', .inr ⟨s.heap.objs.size, false, _, z', hT⟩⟩ hT hsz hk
  · unfold pyNext
    refine wpAny_bind (wpAny_attempt (wpAny_callSpecial?_slot (name := Str.ofString "__next__") hTy F.slot_zip_next (wpAny_call_entry F.slot_zip_next hTy F.entry_zip_next
      (zipT_busy_item D hz hT0 hTI h1 h2 hl1 hl2 hx hy fun h' z' h1' h2' hT hsz hk => wpAny_pure ?_) (F.args_zip_next_1 _))))
    have h0 : T0 ≠ z ∨ T0 = z := (Decidable.em (T0 = z)).symm
    have alive : ∃ o', h'.get? T0 = some o' := by
      by_cases e1 : T0 = z
      · exact ⟨_, by rw [e1]; exact z'⟩
      · by_cases e2 : T0 = i1
        · obtain ⟨o, ho, _⟩ := h1'
          exact ⟨o, by rw [e2]; exact ho⟩
        · by_cases e3 : T0 = i2
          · obtain ⟨o, ho, _⟩ := h2'
            exact ⟨o, by rw [e3]; exact ho⟩
          · exact ⟨_, hk _ _ e1 e2 e3 hT0⟩
    obtain ⟨o', ho'⟩ := alive
    exact hQ h' ⟨hk _ _ D.TIz D.TIi1 D.TIi2 hTI, h1', h2', .inr ⟨T0, true, o', z', ho'⟩⟩ hT hsz fun c o c1 _ c3 c4 e => hk c o c1 c3 c4 e
theorem zip_done {z TI TO i1 i2 l1 l2 : Addr} {i : Nat} {xs ys : Array Value} {Q : Option Value → Shared → Prop} (hh : A.handled = none) (D : ZipApart z TI TO i1 i2 l1 l2) (st : ZS s.heap z TI TO i1 i2 l1 l2 i)
    (hl1 : s.heap.IsTuple l1 xs) (hl2 : s.heap.IsTuple l2 ys) (hend : xs[i]? = none)
    (hQ : ∀ h', (∀ c o, c ≠ z → c ≠ TO → c ≠ i1 → c ≠ i2 → s.heap.get? c = some o → h'.get? c = some o) → Q none { s with heap := h' }) :
    wpAny (model prog w) A (pyNext (.ref z)) Q E s := by
  have hTy : s.TypeIs (.ref z) "zip" := st.ty
  obtain ⟨hTI, h1, h2, ⟨hz, a, b, hTO⟩ | ⟨T0, f, oT, hz, hT0⟩⟩ := st
  · exact pyNext_zipT_end hh D hz hTI hTO h1 h2 hl1 hl2 (.inl hend) hQ
  · unfold pyNext
    refine wpAny_bind (wpAny_attempt (wpAny_callSpecial?_slot (name := Str.ofString "__next__") hTy F.slot_zip_next (wpAny_call_entry F.slot_zip_next hTy F.entry_zip_next
      (zipT_busy_end hh D hz hT0 hTI h1 hl1 hend fun h' e hk he => ?_) (F.args_zip_next_1 _))))
    obtain ⟨o, ho, hc⟩ := he
    refine wpAny_bind (wpAny_isInstance (T := "StopIteration") (b := true) ⟨o, ho, hc⟩ isSubtype_stop ?_)
    exact wpAny_pure (hQ _ fun c o c1 _ c3 _ e => hk c o c1 c3 e)
/-- the pairs that were made, each apart -/
structure Pairs (xs ys : Array Value) (lo : Addr) (h : Heap) (as : List Addr) : Prop where
  rise : as.Pairwise (· < ·)
  above : ∀ a ∈ as, lo ≤ a
  pairs : ∀ (j : Nat) (a : Addr), as[j]? = some a → ∃ x y, xs[j]? = some x ∧ ys[j]? = some y ∧ IsPair h a x y
theorem ZS.keep {z TI TO i1 i2 l1 l2 : Addr} {i : Nat} {h h' : Heap} {S : Addr} (st : ZS h z TI TO i1 i2 l1 l2 i) (hS : S ≠ z ∧ S ≠ TI ∧ S ≠ TO ∧ S ≠ i1 ∧ S ≠ i2) (hk : ∀ b o, b ≠ S → h.get? b = some o → h'.get? b = some o) (hSl : ∃ o, h'.get? S = some o) : ZS h' z TI TO i1 i2 l1 l2 i := by
  obtain ⟨n1, n2, n3, n4, n5⟩ := hS
  obtain ⟨hTI, h1, h2, q⟩ := st
  refine ⟨hk _ _ n2.symm hTI, h1.at fun o e => hk _ o n4.symm e, h2.at fun o e => hk _ o n5.symm e, ?_⟩
  rcases q with ⟨hz, a, b, hTO⟩ | ⟨T0, f, oT, hz, hT0⟩
  · exact .inl ⟨hk _ _ n1.symm hz, a, b, hk _ _ n3.symm hTO⟩
  · refine .inr ⟨T0, f, ?_⟩
    by_cases e : T0 = S
    · obtain ⟨o, ho⟩ := hSl
      exact ⟨o, hk _ _ n1.symm hz, by rw [e]; exact ho⟩
    · exact ⟨oT, hk _ _ n1.symm hz, hk _ _ e hT0⟩
theorem zip_loop {z TI TO i1 i2 l1 l2 S : Addr} {xs ys : Array Value} {R : Result → Shared → Prop} {lo : Addr} {h0 : Heap} (hh : A.handled = none) (D : ZipApart z TI TO i1 i2 l1 l2) (hS : S ≠ z ∧ S ≠ TI ∧ S ≠ TO ∧ S ≠ i1 ∧ S ≠ i2) (hSl : S ≠ l1 ∧ S ≠ l2) (hxy : xs.size = ys.size) (hn : xs.size ≤ sizeLine) (res : Value)
    (hlo : S < lo) (hfz : z < lo ∧ TO < lo ∧ i1 < lo ∧ i2 < lo)
    (hR : ∀ h' acc c as, (∀ b o, b ≠ S → b ≠ z → b ≠ TO → b ≠ i1 → b ≠ i2 → h0.get? b = some o → h'.get? b = some o) → h'.get? S = some { cls := .type "list", dict := none, data := .seq acc c, slots := #[] } → as.length = xs.size → Pairs xs ys lo h' as → acc.toList = as.map Value.ref → R (.ok (.ret res)) { s with heap := h' }) :
    ∀ (k i : Nat) (h : Heap) (c : Nat) (acc : Array Value) (as : List Addr), xs.size - i = k → i ≤ xs.size → ZS h z TI TO i1 i2 l1 l2 i → h.IsTuple l1 xs → h.IsTuple l2 ys → lo ≤ h.objs.size →
      (∀ b o, b ≠ S → b ≠ z → b ≠ TO → b ≠ i1 → b ≠ i2 → h0.get? b = some o → h.get? b = some o) → h.get? S = some { cls := .type "list", dict := none, data := .seq acc c, slots := #[] } → acc.toList = as.map Value.ref → as.length = i → Pairs xs ys lo h as →
      codeAny (model prog w) A (.builtin "list.extend.loop" ⟨[.ref S, .ref z, res], []⟩) R { s with heap := h } := by
  obtain ⟨n1, n2, n3, n4, n5⟩ := id hS
  intro k
  induction k with
  | zero =>
    intro i h c acc as hk hi st hl1 hl2 hls hkeep hSg hacc hal hG
    refine codeAny_builtin F.entry_extend_loop ?_
    rw [Around.under_plainId F.plain_extend_loop _]
    show wpAny _ A.in1 (pyNext (.ref z) >>= _) _ _ _
    refine wpAny_bind (zip_done (s := { s with heap := h }) (A := A.in1) hh D st hl1 hl2 (by simp; omega) fun h' he => ?_)
    have off : ∀ a ∈ as, a ≠ z ∧ a ≠ TO ∧ a ≠ i1 ∧ a ≠ i2 := fun a ha => by
      have d := hG.above a ha
      exact ⟨Nat.ne_of_gt (Nat.lt_of_lt_of_le hfz.1 d), Nat.ne_of_gt (Nat.lt_of_lt_of_le hfz.2.1 d), Nat.ne_of_gt (Nat.lt_of_lt_of_le hfz.2.2.1 d), Nat.ne_of_gt (Nat.lt_of_lt_of_le hfz.2.2.2 d)⟩
    refine wpAny_pure (hR h' acc c as (fun b o b1 b2 b3 b4 b5 e => he b o b2 b3 b4 b5 (hkeep b o b1 b2 b3 b4 b5 e)) (he S _ n1 n3 n4 n5 hSg) (by omega) ⟨hG.rise, hG.above, fun j a hj => ?_⟩ hacc)
    obtain ⟨x, y, e1, e2, e3⟩ := hG.pairs j a hj
    obtain ⟨q1, q2, q3, q4⟩ := off a (List.mem_of_getElem? hj)
    exact ⟨x, y, e1, e2, he a _ q1 q2 q3 q4 e3⟩
  | succ k ih =>
    intro i h c acc as hk hi st hl1 hl2 hls hkeep hSg hacc hal hG
    have hlt : i < xs.size := by omega
    have hsz : acc.size = i := by rw [← Array.length_toList, hacc, List.length_map, hal]
    refine codeAny_builtin F.entry_extend_loop ?_
    rw [Around.under_plainId F.plain_extend_loop _]
    show wpAny _ A.in1 (pyNext (.ref z) >>= _) _ _ _
    refine wpAny_bind (zip_item (s := { s with heap := h }) (A := A.in1) D st hl1 hl2 (Array.getElem?_eq_getElem hlt) (Array.getElem?_eq_getElem (by omega : i < ys.size)) fun h' st' hT hz1 hkp => ?_)
    dsimp only at hT hz1 hkp ⊢
    have hS' := hkp S _ n1 n3 n4 n5 hSg
    have up : ∀ b o, b ≠ S → h'.get? b = some o → (h'.update S (Obj.mapSeq (·.push (Value.ref h.objs.size)))).get? b = some o := fun b o hb e => (Heap.get?_update_other _ _ (Ne.symm hb)).trans e
    have hSlt : S < h.objs.size := Heap.lt_size hSg
    have hself := Heap.get?_update_self (Obj.mapSeq (·.push (Value.ref h.objs.size))) hS' rfl
    show wpAny _ A.in1 (updateSeq S (·.push (Value.ref h.objs.size)) >>= _) _ _ _
    refine wpAny_bind ?_
    have hTn : h.objs.size ≠ S := Nat.ne_of_gt hSlt
    have ls1 : l1 ≠ z ∧ l1 ≠ TO ∧ l1 ≠ i1 ∧ l1 ≠ i2 := ⟨D.l1z, D.l1TO, D.l1i1, D.l1i2⟩
    have ls2 : l2 ≠ z ∧ l2 ≠ TO ∧ l2 ≠ i1 ∧ l2 ≠ i2 := ⟨D.l2z, D.l2TO, D.l2i1, D.l2i2⟩
    have both : ∀ b o, b ≠ S → b ≠ z → b ≠ TO → b ≠ i1 → b ≠ i2 → h.get? b = some o → (h'.update S (Obj.mapSeq (·.push (Value.ref h.objs.size)))).get? b = some o := fun b o b1 b2 b3 b4 b5 e => up b o b1 (hkp b o b2 b3 b4 b5 e)
    have tup : ∀ {l : Addr} {us : Array Value}, l ≠ S → l ≠ z ∧ l ≠ TO ∧ l ≠ i1 ∧ l ≠ i2 → h.IsTuple l us → (h'.update S (Obj.mapSeq (·.push (Value.ref h.objs.size)))).IsTuple l us := fun n q ⟨o, ho, r⟩ => ⟨o, both _ o n q.1 q.2.1 q.2.2.1 q.2.2.2 ho, r⟩
    refine wpAny_updateSeq hS' rfl (wpAny_pure ⟨plainId_quiet F.plain_extend_loop _, ih (i + 1) _ _ (acc.push (Value.ref h.objs.size)) (as ++ [h.objs.size]) (by omega) hlt (st'.keep hS up ⟨_, hself⟩) (tup hSl.1.symm ls1 hl1) (tup hSl.2.symm ls2 hl2) ?_
      (fun b o b1 b2 b3 b4 b5 e => both b o b1 b2 b3 b4 b5 (hkeep b o b1 b2 b3 b4 b5 e)) hself (by rw [Array.toList_push, hacc, List.map_append]; rfl) (by rw [List.length_append, hal]; rfl) ⟨?_, ?_, ?_⟩⟩) (by rw [hsz]; omega) (by show (acc.push (Value.ref h.objs.size)).size ≤ sizeLine + 1; rw [Array.size_push, hsz]; omega)
    · refine Nat.le_trans hls ?_
      have e : (h'.update S (Obj.mapSeq (·.push (Value.ref h.objs.size)))).get? h.objs.size = _ := up _ _ hTn hT
      exact Nat.le_of_lt (Heap.lt_size e)
    · refine List.pairwise_append.mpr ⟨hG.rise, List.pairwise_singleton _ _, fun a ha b hb => ?_⟩
      rw [List.mem_singleton.mp hb]
      obtain ⟨j, hj⟩ := List.getElem?_of_mem ha
      obtain ⟨_, _, _, _, e3⟩ := hG.pairs j a hj
      exact Heap.lt_size e3
    · intro a ha
      rcases List.mem_append.mp ha with ha | ha
      · exact hG.above a ha
      · rw [List.mem_singleton.mp ha]
        exact hls
    · intro j b hj
      rcases Nat.lt_trichotomy j as.length with g1 | g1 | g1
      · rw [List.getElem?_append_left g1] at hj
        obtain ⟨x, y, e1, e2, e3⟩ := hG.pairs j b hj
        have d := hG.above b (List.mem_of_getElem? hj)
        exact ⟨x, y, e1, e2, both b _ (Nat.ne_of_gt (Nat.lt_of_lt_of_le hlo d)) (Nat.ne_of_gt (Nat.lt_of_lt_of_le hfz.1 d)) (Nat.ne_of_gt (Nat.lt_of_lt_of_le hfz.2.1 d)) (Nat.ne_of_gt (Nat.lt_of_lt_of_le hfz.2.2.1 d)) (Nat.ne_of_gt (Nat.lt_of_lt_of_le hfz.2.2.2 d)) e3⟩
      · subst g1
        have hb : h.objs.size = b := by simpa using hj
        subst hb
        exact ⟨xs[as.length]'(by omega), ys[as.length]'(by omega), Array.getElem?_eq_getElem _, Array.getElem?_eq_getElem _, by have := up _ _ hTn hT; subst hal; exact this⟩
      · have hnone : (as ++ [h.objs.size])[j]? = none := List.getElem?_eq_none (by rw [List.length_append, List.length_singleton]; omega)
        rw [hnone] at hj
        cases hj
theorem zip_len_none : typeLookup (.type "zip") "__len__" = pure none := am_miss_of_fast (by decide +kernel)
theorem zip_hint_none : typeLookup (.type "zip") "__length_hint__" = pure none := am_miss_of_fast (by decide +kernel)
theorem zip_extend {z TI TO i1 i2 l1 l2 S : Addr} {xs ys : Array Value} {R : Result → Shared → Prop} {lo : Addr} (hh : A.handled = none) (D : ZipApart z TI TO i1 i2 l1 l2) (hS : S ≠ z ∧ S ≠ TI ∧ S ≠ TO ∧ S ≠ i1 ∧ S ≠ i2) (hSl : S ≠ l1 ∧ S ≠ l2) (hxy : xs.size = ys.size) (hn : xs.size ≤ sizeLine) (res : Value)
    (hlo : S < lo) (hfz : z < lo ∧ TO < lo ∧ i1 < lo ∧ i2 < lo) (hle : lo ≤ s.heap.objs.size) (hz : IsZip s.heap z TI TO .none) (st : ZS s.heap z TI TO i1 i2 l1 l2 0) (hl1 : s.heap.IsTuple l1 xs) (hl2 : s.heap.IsTuple l2 ys) (c0 : Nat) (hS0 : s.heap.get? S = some { cls := .type "list", data := .seq #[] c0 })
    (hR : ∀ h' acc c as, (∀ b o, b ≠ S → b ≠ z → b ≠ TO → b ≠ i1 → b ≠ i2 → s.heap.get? b = some o → h'.get? b = some o) → h'.get? S = some { cls := .type "list", dict := none, data := .seq acc c, slots := #[] } → as.length = xs.size → Pairs xs ys lo h' as → acc.toList = as.map Value.ref → R (.ok (.ret res)) { s with heap := h' }) :
    wpAny (model prog w) A.in1 (Builtin.List.listExtendWith (.ref S) (.ref z) res)
      (fun fin s' => match fin with | .done f => R (.ok f) s' | .again c' => c'.quiet = true ∧ codeAny (model prog w) A c' R s') (fun e s' => R (.error e) s') s := by
  have hTy : s.TypeIs (.ref z) "zip" := st.ty
  unfold Builtin.List.listExtendWith
  refine wpAny_bind (wpAny_typeOf (T := "zip") hTy ?_)
  have g1 : Builtin.List.listSameRef (.ref S) (.ref z) = false := by simp [Builtin.List.listSameRef, hS.1]
  have g2 : (Value.type "zip" == Value.type "list") = false := by decide
  have g3 : (Value.type "zip" == Value.type "tuple") = false := by decide
  simp only [g1, g2, g3, Bool.or_false, Bool.false_eq_true, if_false]
  refine wpAny_bind (wpAny_pyIter_zip hz ?_)
  refine wpAny_bind (wpAny_holding ?_)
  unfold Builtin.List.listLengthHint
  refine wpAny_bind (wpAny_specialOf hTy zip_len_none ?_)
  show wpAny _ _ (specialOf (Value.ref z) (Str.ofString "__length_hint__") >>= _) _ _ _
  refine wpAny_bind (wpAny_specialOf hTy zip_hint_none ?_)
  refine wpAny_pure ?_
  show wpAny _ _ (rule "list.extend.makes-room" >>= fun _ => Builtin.List.listTouch (.ref S) >>= fun _ => again (.builtin "list.extend.loop" ⟨[.ref S, .ref z, res], []⟩)) _ _ _
  refine wpAny_bind (wpAny_rule ?_)
  refine wpAny_bind ?_
  show wpAny _ _ (updateSeq S (·.push .none) >>= fun _ => updateSeq S (·.pop)) _ _ _
  refine wpAny_bind (wpAny_updateSeq hS0 rfl ?_)
  have hS2 := Heap.get?_update_self (Obj.mapSeq (·.push Value.none)) hS0 rfl
  refine wpAny_updateSeq (hz := by seq_fits) hS2 rfl ?_
  have hS3 := Heap.get?_update_self (Obj.mapSeq (·.pop)) hS2 rfl
  have oth : ∀ b o, b ≠ S → s.heap.get? b = some o → ((s.heap.update S (Obj.mapSeq (·.push Value.none))).update S (Obj.mapSeq (·.pop))).get? b = some o := fun b o hb e => (Heap.get?_update_other _ _ (Ne.symm hb)).trans ((Heap.get?_update_other _ _ (Ne.symm hb)).trans e)
  refine wpAny_pure ⟨plainId_quiet F.plain_extend_loop _, zip_loop (s := s) (h0 := s.heap) (lo := lo) hh D hS hSl hxy hn res hlo hfz hR xs.size 0 _ _ #[] [] (Nat.sub_zero _) (Nat.zero_le _) (st.keep hS oth ⟨_, hS3⟩) ?_ ?_ ?_ (fun b o b1 _ _ _ _ e => oth b o b1 e) hS3 rfl rfl ⟨List.Pairwise.nil, (fun _ ha => nomatch ha), fun j a hj => by simp at hj⟩⟩
  · obtain ⟨o, ho, r⟩ := hl1
    exact ⟨o, oth _ _ hSl.1.symm ho, r⟩
  · obtain ⟨o, ho, r⟩ := hl2
    exact ⟨o, oth _ _ hSl.2.symm ho, r⟩
  · have e : ((s.heap.update S (Obj.mapSeq (·.push Value.none))).update S (Obj.mapSeq (·.pop))).objs.size = s.heap.objs.size := by
      first
        | rw [Heap.size_update, Heap.size_update]
        | simp [Heap.update]
    rw [e]
    exact hle
/-- list(z) for such a zip -/
theorem zip_list {z TI TO i1 i2 l1 l2 : Addr} {xs ys : Array Value} {Q : Value → Shared → Prop} (hh : A.handled = none) (D : ZipApart z TI TO i1 i2 l1 l2) (hxy : xs.size = ys.size) (hn : xs.size ≤ sizeLine)
    (hfz : z < s.heap.objs.size ∧ TI < s.heap.objs.size ∧ TO < s.heap.objs.size ∧ i1 < s.heap.objs.size ∧ i2 < s.heap.objs.size) (hz : IsZip s.heap z TI TO .none) (st : ZS s.heap z TI TO i1 i2 l1 l2 0) (hl1 : s.heap.IsTuple l1 xs) (hl2 : s.heap.IsTuple l2 ys)
    (hQ : ∀ h' acc c as, (∀ b o, b ≠ z → b ≠ TO → b ≠ i1 → b ≠ i2 → s.heap.get? b = some o → h'.get? b = some o) → h'.get? s.heap.objs.size = some { cls := .type "list", dict := none, data := .seq acc c, slots := #[] } → as.length = xs.size → Pairs xs ys (s.heap.objs.size + 1) h' as → acc.toList = as.map Value.ref → Q (.ref s.heap.objs.size) { s with heap := h' }) :
    wpAny (model prog w) A (call (.type "list") [.ref z]) Q E s := by
  refine callType_codes (Q₁ := fun obj s1 => obj = .ref s.heap.objs.size ∧ s1 = { s with heap := s.heap.push { cls := .type "list", data := .seq #[] } }) F.called_list (F.typeCall_list_1 _) F.entry_list_init (code_list_new _ ⟨rfl, rfl⟩) fun obj s1 hs1 => ?_
  obtain ⟨rfl, rfl⟩ := hs1
  have hS : (s.heap.push { cls := .type "list", data := .seq #[] }).get? s.heap.objs.size = some { cls := .type "list", data := .seq #[] } := Heap.get?_push_size _ rfl
  refine ⟨⟨_, hS, rfl⟩, F.args_list_init_2 _ _, ?_⟩
  show wpAny _ _ (do let old ← Builtin.List.listItems (.ref s.heap.objs.size); Builtin.List.listUpdate (.ref s.heap.objs.size) (fun _ => #[]); letGo old.toList.reverse; Builtin.List.listExtendWith (.ref s.heap.objs.size) (.ref z) .none) _ _ _
  refine wpAny_bind ?_
  unfold Builtin.List.listItems
  refine wpAny_bind (wpAny_seqItems hS rfl (wpAny_pure ?_))
  show wpAny _ _ (updateSeq s.heap.objs.size (fun _ => #[]) >>= fun _ => letGo (#[] : Array Value).toList.reverse >>= fun _ => Builtin.List.listExtendWith (.ref s.heap.objs.size) (.ref z) .none) _ _ _
  refine wpAny_bind (wpAny_updateSeq hS rfl ?_)
  have hS2 := Heap.get?_update_self (Obj.mapSeq (fun _ => (#[] : Array Value))) hS rfl
  have oth : ∀ b o, s.heap.get? b = some o → ((s.heap.push { cls := .type "list", data := .seq #[] }).update s.heap.objs.size (Obj.mapSeq (fun _ => (#[] : Array Value)))).get? b = some o :=
    fun b o e => (Heap.get?_update_other _ _ (Nat.ne_of_gt (Heap.lt_size e))).trans (Heap.get?_push_of_some _ e)
  refine wpAny_bind (wpAny_letGo ?_)
  have hsz2 : ((s.heap.push { cls := .type "list", data := .seq #[] }).update s.heap.objs.size (Obj.mapSeq (fun _ => (#[] : Array Value)))).objs.size = s.heap.objs.size + 1 := by rw [Heap.size_update, Heap.size_push]
  generalize hH2 : (s.heap.push { cls := .type "list", data := .seq #[] }).update s.heap.objs.size (Obj.mapSeq (fun _ => (#[] : Array Value))) = H2 at hS2 oth hsz2 ⊢
  have lt1 : s.heap.objs.size < s.heap.objs.size + 1 := Nat.lt_succ_self _
  have hl1' : l1 < s.heap.objs.size := by
    obtain ⟨o, ho, _⟩ := hl1
    exact Heap.lt_size ho
  have hl2' : l2 < s.heap.objs.size := by
    obtain ⟨o, ho, _⟩ := hl2
    exact Heap.lt_size ho
  obtain ⟨f1, f2, f3, f4, f5⟩ := hfz
  have nS : s.heap.objs.size ≠ z ∧ s.heap.objs.size ≠ TI ∧ s.heap.objs.size ≠ TO ∧ s.heap.objs.size ≠ i1 ∧ s.heap.objs.size ≠ i2 := ⟨Nat.ne_of_gt f1, Nat.ne_of_gt f2, Nat.ne_of_gt f3, Nat.ne_of_gt f4, Nat.ne_of_gt f5⟩
  refine zip_extend (s := { s with heap := H2 }) (A := A.in1) (lo := s.heap.objs.size + 1) (l1 := l1) (l2 := l2) (xs := xs) (ys := ys) hh D nS ⟨Nat.ne_of_gt hl1', Nat.ne_of_gt hl2'⟩ hxy hn .none lt1 ⟨Nat.lt_succ_of_lt f1, Nat.lt_succ_of_lt f3, Nat.lt_succ_of_lt f4, Nat.lt_succ_of_lt f5⟩ (Nat.le_of_eq hsz2.symm) (oth _ _ hz) (st.keep nS (fun b o _ e => oth b o e) ⟨_, hS2⟩) ?_ ?_ _ hS2 ?_
  · obtain ⟨o, ho, r⟩ := hl1
    exact ⟨o, oth _ _ ho, r⟩
  · obtain ⟨o, ho, r⟩ := hl2
    exact ⟨o, oth _ _ ho, r⟩
  · intro h' acc c as hk hSg hl hP hacc
    exact ⟨rfl, hQ h' acc c as (fun b o b2 b3 b4 b5 e => hk b o (Nat.ne_of_lt (Heap.lt_size e)) b2 b3 b4 b5 (oth b o e)) hSg hl hP hacc⟩
end
end Gm
/-! list(zip(xs, ys)) of two tuples, as a rule. -/
namespace Gm
open PySem PySem.Spec PyProof.Rows L2 RZ
/-- pairs told at their addresses -/
def putP (H : Hp) : List Addr → List (V × V) → Hp
  | a :: as, p :: ps => upd (putP H as ps) a (.tup [p.1, p.2])
  | _, _ => H
theorem putP_off {H : Hp} {b : Addr} : ∀ {as : List Addr} {ps : List (V × V)}, b ∉ as → putP H as ps b = H b
  | [], _, _ => by
    unfold putP
    rfl
  | _ :: _, [], _ => rfl
  | a :: as, p :: ps, h => by
    show upd (putP H as ps) a (.tup [p.1, p.2]) b = H b
    rw [upd_ne (fun e => h (by rw [e]; exact List.mem_cons_self ..)), putP_off fun z => h (List.mem_cons_of_mem _ z)]
theorem putP_at {H : Hp} : ∀ {as : List Addr} {ps : List (V × V)} {j : Nat} {a : Addr} {p : V × V}, as.Nodup → as[j]? = some a → ps[j]? = some p → putP H as ps a = some (.tup [p.1, p.2])
  | b :: as, q :: ps, 0, a, p, _, e1, e2 => by
    cases Option.some.inj e1
    cases Option.some.inj e2
    exact upd_same
  | b :: as, q :: ps, j + 1, a, p, nd, e1, e2 => by
    have e1' : as[j]? = some a := e1
    have nd' := List.nodup_cons.mp nd
    show upd (putP H as ps) b (.tup [q.1, q.2]) a = _
    rw [upd_ne (fun e => nd'.1 (by rw [← e]; exact List.mem_of_getElem? e1'))]
    exact putP_at nd'.2 e1' e2
def tListZip (K : Frag) (tas : TA) : TE := fun σ H Q => tas σ H fun vs H1 => ∃ a b xs ys, vs = [.ref a, .ref b] ∧ SqT K H1 a xs ∧ SqT K H1 b ys ∧ xs.length = ys.length ∧
  ∀ (H' : Hp) (p : Addr) (ts : List Addr), Same H1 H' → H1 p = none → p ∉ ts → H' p = some (.lst (ts.map V.ref)) → ts.length = xs.length → (∀ (j : Nat) (t : Addr), ts[j]? = some t → ∃ x y, xs[j]? = some x ∧ ys[j]? = some y ∧ H' t = some (.tup [x, y])) → Q (.ref p) H'
section
variable {X : Cx} {pn : List (Addr × Obj)} {σ : L2.St} {H : Hp} {s : Shared}
theorem refs_vals : ∀ as : List Addr, Vals (as.map V.ref) (as.map Value.ref)
  | [] => .nil
  | _ :: as => .cons rfl (refs_vals as)
theorem pairs_laid {h' : Heap} {xs ys : List V} {us ws : List Value} {acc : Array Value} {c : Nat} {as : List Addr} {S lo : Addr} (I : Inv X pn σ H s) (hz : xs.length ≤ sizeLine) (hxy : xs.length = ys.length) (rx : Vals xs us) (ry : Vals ys ws)
    (hk : ∀ b o, s.heap.get? b = some o → h'.get? b = some o) (hSz : s.heap.objs.size ≤ S) (hlo : S < lo) (hS : h'.get? S = some { cls := .type "list", dict := none, data := .seq acc c, slots := #[] }) (hl : as.length = xs.length) (hP : Pairs us.toArray ws.toArray lo h' as) (hacc : acc.toList = as.map Value.ref) :
    ∃ H' : Hp, Same H H' ∧ H S = none ∧ S ∉ as ∧ H' S = some (.lst (as.map V.ref)) ∧ (∀ (j : Nat) (t : Addr), as[j]? = some t → ∃ x y, xs[j]? = some x ∧ ys[j]? = some y ∧ H' t = some (.tup [x, y])) ∧ Inv X pn σ H' { s with heap := h' } := by
  have hSn : S ∉ as := fun z => absurd (hP.above _ z) (Nat.not_le_of_gt hlo)
  have nd : as.Nodup := List.Pairwise.imp (fun {a b} (h : a < b) => Nat.ne_of_lt h) hP.rise
  have big : ∀ t ∈ as, s.heap.objs.size ≤ t := fun t ht => Nat.le_trans hSz (Nat.le_of_lt (Nat.lt_of_lt_of_le hlo (hP.above t ht)))
  have new : ∀ t ∈ as, H t = none := fun t ht => I.hok.fresh (big t ht)
  have newS : H S = none := I.hok.fresh hSz
  have items : ∀ {j : Nat} {t : Addr}, as[j]? = some t → ∃ x y, xs[j]? = some x ∧ ys[j]? = some y ∧ (xs.zip ys)[j]? = some (x, y) := fun {j t} e => by
    have hj : j < as.length := (List.getElem?_eq_some_iff.mp e).1
    refine ⟨xs[j]'(by omega), ys[j]'(by omega), List.getElem?_eq_getElem _, List.getElem?_eq_getElem _, ?_⟩
    rw [List.getElem?_zip_eq_some]
    exact ⟨List.getElem?_eq_getElem _, List.getElem?_eq_getElem _⟩
  have off : ∀ b, b ∉ as → b ≠ S → putP (upd H S (.lst (as.map V.ref))) as (xs.zip ys) b = H b := fun b h1 h2 => by rw [putP_off h1, upd_ne h2]
  have low : ∀ b o, s.heap.get? b = some o → b ∉ as ∧ b ≠ S := fun b o e => ⟨fun z => absurd (Heap.lt_size e) (Nat.not_lt.mpr (big b z)), fun z => absurd (Heap.lt_size e) (Nat.not_lt.mpr (by rw [z]; exact hSz))⟩
  have kp : ∀ b u, H b = some u → (putP (upd H S (.lst (as.map V.ref))) as (xs.zip ys)) b = some u := fun b u e => by
    rw [off b (fun z => by rw [new b z] at e; cases e) (fun z => by rw [z, newS] at e; cases e)]
    exact e
  have eS : putP (upd H S (.lst (as.map V.ref))) as (xs.zip ys) S = some (.lst (as.map V.ref)) := by rw [putP_off hSn, upd_same]
  refine ⟨putP (upd H S (.lst (as.map V.ref))) as (xs.zip ys), kp, newS, hSn, eS, fun j t e => ?_, ?_⟩
  · obtain ⟨x, y, e1, e2, e3⟩ := items e
    exact ⟨x, y, e1, e2, putP_at nd e e3⟩
  refine I.call' (ch := []) rfl ⟨fun b o q _ _ _ => hk b o q, fun b o q _ _ _ => ⟨o.slots, hk b o q⟩, fun b o q n _ => ?_, fun b o q _ => ⟨o, hk b o q⟩, fun b xs q => kp b _ q, fun b o u q => kp b _ q, fun b ps q => ⟨#[], by rw [kp b _ q]; simp⟩⟩ (fun b u q => ?_) I.bare fun b z => by simp at z
  · obtain ⟨z1, z2⟩ := low b o q
    rw [off b z1 z2]
    exact n
  · by_cases hb : b ∈ as
    · obtain ⟨j, ej⟩ := List.getElem?_of_mem hb
      obtain ⟨x, y, e1, e2, e3⟩ := items ej
      rw [putP_at nd ej e3] at q
      cases q
      obtain ⟨x', y', f1, f2, f3⟩ := hP.pairs j b ej
      obtain ⟨u1, g1, r1⟩ := rx.get e1
      obtain ⟨u2, g2, r2⟩ := ry.get e2
      have f1' : us[j]? = some x' := by simpa using f1
      have f2' : ws[j]? = some y' := by simpa using f2
      rw [g1] at f1'
      rw [g2] at f2'
      cases f1'
      cases f2'
      exact ⟨by show 2 ≤ sizeLine; decide, [_, _], .cons r1 (.cons r2 .nil), ⟨_, f3, rfl, _, rfl⟩⟩
    · by_cases hb2 : b = S
      · rw [hb2] at q ⊢
        rw [eS] at q
        cases q
        refine ⟨by rw [List.length_map]; omega, acc.toList, c, by rw [hacc]; exact refs_vals as, ?_⟩
        rw [Array.toArray_toList]
        exact hS
      · rw [off b hb hb2] at q
        exact (I.hok b u q).stay (fun d v _ y => hk d v y) (fun d y => kp d _ y) fun d xs y => kp d _ y
end
section
variable {X : Cx} {e e2 : Expr} {tas : TA} {p q pos zpos : Pos}
/-- list(zip(e, e2)) -/
theorem pe_listZip (hc : X.calm = true) (hg : Gl X "list") (hm : X.mg "list" = none) (hgz : Gl X "zip") (hmz : X.mg "zip" = none) (ha : PA X [e, e2] tas)
    (hs : starEach [.Call (.Name "zip" q) [e, e2] [] zpos] X.env = (false, eval (.Call (.Name "zip" q) [e, e2] [] zpos) X.env) :: starEach [] X.env := by rfl)
    (hz : starEach [e, e2] X.env = (false, eval e X.env) :: starEach [e2] X.env := by rfl) (hpl : (backTo zpos (starEach [e2] X.env)).any (·.1) = false := by rfl) :
    PE X (.Call (.Name "list" p) [.Call (.Name "zip" q) [e, e2] [] zpos] [] pos) (tListZip X.K tas) := by
  refine ⟨fun pn sh σ H Q I h => ?_⟩
  have hv : bootBuiltins "list" = some (.type "list") := by decide +kernel
  refine wpAny_Call_Name_kw (ld_blt I hg hm hv ?_)
  refine PyProof.Rows.callWith_type1 ?_ hs rfl
  rw [hs]
  show wpAny _ _ (spliced ((false, eval (.Call (.Name "zip" q) [e, e2] [] zpos) X.env) :: backTo pos (starEach [] X.env))) _ _ sh
  refine Calls.spliced_cons ?_
  refine Call_ (ld_blt I hgz hmz PyProof.Rows.boot_zip (PyProof.Rows.callWith_type1 (thn (ha.run zpos pn sh σ H _ I h) fun argv sA ⟨vs, H1, J, rel, post⟩ => ?_) hz hpl))
  obtain ⟨a, b, xs, ys, ex, hqx, hqy, hxy, post⟩ := post
  subst ex
  cases rel with
  | cons rel1 rr =>
    cases rr with
    | cons rel2 rr =>
      cases rr
      cases rel1
      cases rel2
      obtain ⟨us, rvx, p1, hlx⟩ := J.tuple hqx
      obtain ⟨ws, rvy, p2, hly⟩ := J.tuple hqy
      obtain ⟨o1, ho1, _⟩ := id p1
      obtain ⟨o2, ho2, _⟩ := id p2
      refine call_zipT (show sA.heap.IsTuple a us.toArray from p1) (show sA.heap.IsTuple b ws.toArray from p2) fun h' hzz hTI hTO h1 h2 hsz hk => ?_
      refine Calls.spliced_nil ?_
      have lx := rvx.length
      have ly := rvy.length
      have ap := PySem.W.ktu_apart sA.heap.objs.size a b (Heap.lt_size ho1) (Heap.lt_size ho2)
      have low : ∀ c o, sA.heap.get? c = some o → c ≠ sA.heap.objs.size + 4 ∧ c ≠ sA.heap.objs.size + 3 ∧ c ≠ sA.heap.objs.size ∧ c ≠ sA.heap.objs.size + 1 := fun c o e => by
        have d : c < sA.heap.objs.size := Heap.lt_size e
        exact ⟨Nat.ne_of_lt (Nat.lt_add_right 4 d), Nat.ne_of_lt (Nat.lt_add_right 3 d), Nat.ne_of_lt d, Nat.ne_of_lt (Nat.lt_add_right 1 d)⟩
      have five : ∀ k : Nat, k < 5 → sA.heap.objs.size + k < h'.objs.size := fun k hk5 => by
        rw [hsz]
        exact Nat.add_lt_add_left hk5 _
      refine zip_list (s := { sA with heap := h' }) (xs := us.toArray) (ys := ws.toArray) (J.ok.hd hc) ap (by simp; omega) (by rw [List.size_toArray, ← lx]; exact hlx) ⟨five 4 (by decide), five 2 (by decide), five 3 (by decide), five 0 (by decide), five 1 (by decide)⟩ hzz ⟨hTI, h1, h2, .inl ⟨hzz, _, _, hTO⟩⟩ ?_ ?_ fun h3 acc c as hk3 hS3 hl3 hP3 hacc3 => ?_
      · exact (show sA.heap.IsTuple a us.toArray from p1).imp fun o r => ⟨hk _ _ r.1, r.2⟩
      · exact (show sA.heap.IsTuple b ws.toArray from p2).imp fun o r => ⟨hk _ _ r.1, r.2⟩
      · have hk4 : ∀ b o, sA.heap.get? b = some o → h3.get? b = some o := fun b o e => by
          obtain ⟨q1, q2, q3, q4⟩ := low b o e
          exact hk3 b o q1 q2 q3 q4 (hk b o e)
        obtain ⟨H', k1, k2, k3, k4, k5, J3⟩ := pairs_laid (S := h'.objs.size) (lo := h'.objs.size + 1) J hlx hxy rvx rvy hk4 (Nat.le_of_lt (five 0 (by decide))) (Nat.lt_succ_self _) hS3 (by rw [hl3, List.size_toArray, lx]) hP3 hacc3
        exact ⟨.ref h'.objs.size, H', J3, rfl, post H' _ as k1 k2 k3 k4 (by rw [hl3, List.size_toArray, lx]) k5⟩
end
end Gm
namespace K14
open PySem PySem.Spec PyProof.Rows L2 Gm
def topS (i : Nat) : Stmt := PySem.Challenge.pw_gridmetric_k14_tail_matrices.main.body.getD i (.Pass ⟨0, 0, 0, 0⟩)
abbrev s_is_integer : Stmt := topS 5
theorem sc_is_integer : FnScope ["value"] ["value"] (defScope s_is_integer) := ⟨rfl, rfl, rfl, by decide +kernel, rfl, by decide +kernel, by decide +kernel⟩
abbrev s_dot : Stmt := topS 7
theorem sc_dot : FnScope ["a", "b", "x", "y"] ["a", "b"] (defScope s_dot) := ⟨rfl, rfl, rfl, by decide +kernel, rfl, by decide +kernel, by decide +kernel⟩
abbrev s_determinant_of : Stmt := topS 16
theorem sc_determinant_of : FnScope ["rows", "sign", "last", "at", "top", "k", "row"] ["rows"] (defScope s_determinant_of) := ⟨rfl, rfl, rfl, by decide +kernel, rfl, by decide +kernel, by decide +kernel⟩
abbrev s_first_with_head : Stmt := topS 17
theorem sc_first_with_head : FnScope ["rows", "k", "row"] ["rows"] (defScope s_first_with_head) := ⟨rfl, rfl, rfl, by decide +kernel, rfl, by decide +kernel, by decide +kernel⟩
abbrev s_cleared : Stmt := topS 18
theorem sc_cleared : FnScope ["top", "row", "last", "k"] ["top", "row", "last"] (defScope s_cleared) := ⟨rfl, rfl, rfl, by decide +kernel, rfl, by decide +kernel, by decide +kernel⟩
abbrev s_minor : Stmt := topS 19
theorem sc_minor : FnScope ["rows", "i", "j", "kept", "k", "row"] ["rows", "i", "j"] (defScope s_minor) := ⟨rfl, rfl, rfl, by decide +kernel, rfl, by decide +kernel, by decide +kernel⟩
abbrev s_adjugate_of : Stmt := topS 20
theorem sc_adjugate_of : FnScope ["rows", "places", "i", "j"] ["rows"] (defScope s_adjugate_of) := ⟨rfl, rfl, rfl, by decide +kernel, rfl, by decide +kernel, by decide +kernel⟩
abbrev s_signed_minor : Stmt := topS 21
theorem sc_signed_minor : FnScope ["rows", "i", "j"] ["rows", "i", "j"] (defScope s_signed_minor) := ⟨rfl, rfl, rfl, by decide +kernel, rfl, by decide +kernel, by decide +kernel⟩
abbrev s_Grid_init : Stmt := inClass (topS 23) 0
theorem sc_Grid_init : FnScope ["self", "rows", "width"] ["self", "rows", "width"] (defScope s_Grid_init) := ⟨rfl, rfl, rfl, by decide +kernel, rfl, by decide +kernel, by decide +kernel⟩
abbrev s_Grid_eq : Stmt := inClass (topS 23) 1
theorem sc_Grid_eq : FnScope ["self", "other"] ["self", "other"] (defScope s_Grid_eq) := ⟨rfl, rfl, rfl, by decide +kernel, rfl, by decide +kernel, by decide +kernel⟩
abbrev s_Grid_sub : Stmt := inClass (topS 23) 5
theorem sc_Grid_sub : FnScope ["self", "other", "pairs", "one", "two", "x", "y"] ["self", "other"] (defScope s_Grid_sub) := ⟨rfl, rfl, rfl, by decide +kernel, rfl, by decide +kernel, by decide +kernel⟩
abbrev s_Grid_mul : Stmt := inClass (topS 23) 6
theorem sc_Grid_mul : FnScope ["self", "other", "columns", "row", "column"] ["self", "other"] (defScope s_Grid_mul) := ⟨rfl, rfl, rfl, by decide +kernel, rfl, by decide +kernel, by decide +kernel⟩
abbrev s_Grid_scaled : Stmt := inClass (topS 23) 8
theorem sc_Grid_scaled : FnScope ["self", "k", "row", "item"] ["self", "k"] (defScope s_Grid_scaled) := ⟨rfl, rfl, rfl, by decide +kernel, rfl, by decide +kernel, by decide +kernel⟩
abbrev s_Grid_transposed : Stmt := inClass (topS 23) 9
theorem sc_Grid_transposed : FnScope ["self", "places", "k", "row"] ["self"] (defScope s_Grid_transposed) := ⟨rfl, rfl, rfl, by decide +kernel, rfl, by decide +kernel, by decide +kernel⟩
abbrev s_Grid_is_square : Stmt := inClass (topS 23) 13
theorem sc_Grid_is_square : FnScope ["self"] ["self"] (defScope s_Grid_is_square) := ⟨rfl, rfl, rfl, by decide +kernel, rfl, by decide +kernel, by decide +kernel⟩
abbrev s_Grid_determinant : Stmt := inClass (topS 23) 14
theorem sc_Grid_determinant : FnScope ["self"] ["self"] (defScope s_Grid_determinant) := ⟨rfl, rfl, rfl, by decide +kernel, rfl, by decide +kernel, by decide +kernel⟩
abbrev s_Grid_adjugate : Stmt := inClass (topS 23) 15
theorem sc_Grid_adjugate : FnScope ["self"] ["self"] (defScope s_Grid_adjugate) := ⟨rfl, rfl, rfl, by decide +kernel, rfl, by decide +kernel, by decide +kernel⟩
abbrev s_checked_rows : Stmt := topS 24
theorem sc_checked_rows : FnScope ["rows", "row", "item"] ["rows"] (defScope s_checked_rows) := ⟨rfl, rfl, rfl, by decide +kernel, rfl, by decide +kernel, by decide +kernel⟩
abbrev s_checked_width : Stmt := topS 25
theorem sc_checked_width : FnScope ["rows", "width", "row"] ["rows", "width"] (defScope s_checked_width) := ⟨rfl, rfl, rfl, by decide +kernel, rfl, by decide +kernel, by decide +kernel⟩
abbrev s_check_same_size : Stmt := topS 26
theorem sc_check_same_size : FnScope ["a", "b"] ["a", "b"] (defScope s_check_same_size) := ⟨rfl, rfl, rfl, by decide +kernel, rfl, by decide +kernel, by decide +kernel⟩
abbrev s_check_square : Stmt := topS 27
theorem sc_check_square : FnScope ["a"] ["a"] (defScope s_check_square) := ⟨rfl, rfl, rfl, by decide +kernel, rfl, by decide +kernel, by decide +kernel⟩
abbrev s_tail_matrix : Stmt := topS 29
theorem sc_tail_matrix : FnScope ["gram", "k", "size", "high", "low", "a", "b", "c", "row"] ["gram", "k"] (defScope s_tail_matrix) := ⟨rfl, rfl, rfl, by decide +kernel, rfl, by decide +kernel, by decide +kernel⟩
abbrev s_law_numbers : Stmt := topS 31
theorem sc_law_numbers : FnScope ["script", "found", "k", "cell", "turn", "i", "mixed_v"] ["script"] (defScope s_law_numbers) := ⟨rfl, rfl, rfl, by decide +kernel, rfl, by decide +kernel, by decide +kernel⟩
abbrev s_law_next : Stmt := topS 32
theorem sc_law_next : FnScope ["numbers", "many"] ["numbers", "many"] (defScope s_law_next) := ⟨rfl, rfl, rfl, by decide +kernel, rfl, by decide +kernel, by decide +kernel⟩
abbrev s_law_gram : Stmt := topS 33
theorem sc_law_gram : FnScope ["numbers", "rank", "rows", "i", "row", "gram", "v", "j", "w", "k"] ["numbers", "rank"] (defScope s_law_gram) := ⟨rfl, rfl, rfl, by decide +kernel, rfl, by decide +kernel, by decide +kernel⟩
abbrev s_law_norm : Stmt := topS 34
theorem sc_law_norm : FnScope ["gram", "v", "total", "i", "j"] ["gram", "v"] (defScope s_law_norm) := ⟨rfl, rfl, rfl, by decide +kernel, rfl, by decide +kernel, by decide +kernel⟩
abbrev s_law_minor : Stmt := topS 35
theorem sc_law_minor : FnScope ["gram", "size", "row"] ["gram", "size"] (defScope s_law_minor) := ⟨rfl, rfl, rfl, by decide +kernel, rfl, by decide +kernel, by decide +kernel⟩
abbrev s_law_determinant : Stmt := topS 36
theorem sc_law_determinant : FnScope ["rows", "total", "sign", "j", "rest", "row"] ["rows"] (defScope s_law_determinant) := ⟨rfl, rfl, rfl, by decide +kernel, rfl, by decide +kernel, by decide +kernel⟩
abbrev s_law : Stmt := topS 37
theorem sc_law : FnScope ["script", "numbers", "rank", "gram", "k", "tail", "v", "value", "i", "j", "turn"] ["script"] (defScope s_law) := ⟨rfl, rfl, rfl, by decide +kernel, rfl, by decide +kernel, by decide +kernel⟩
structure Top (K : PySem.W.Frag) (mg : Str → Option Value) where
  a_is_integer : Addr
  a_dot : Addr
  a_determinant_of : Addr
  a_first_with_head : Addr
  a_cleared : Addr
  a_minor : Addr
  a_adjugate_of : Addr
  a_signed_minor : Addr
  a_Grid_init : Addr
  a_Grid_eq : Addr
  a_Grid_sub : Addr
  a_Grid_mul : Addr
  a_Grid_scaled : Addr
  a_Grid_transposed : Addr
  a_Grid_is_square : Addr
  a_Grid_determinant : Addr
  a_Grid_adjugate : Addr
  a_checked_rows : Addr
  a_checked_width : Addr
  a_check_same_size : Addr
  a_check_square : Addr
  a_tail_matrix : Addr
  a_law_numbers : Addr
  a_law_next : Addr
  a_law_gram : Addr
  a_law_norm : Addr
  a_law_minor : Addr
  a_law_determinant : Addr
  a_law : Addr
  d_is_integer : FuncData
  d_dot : FuncData
  d_determinant_of : FuncData
  d_first_with_head : FuncData
  d_cleared : FuncData
  d_minor : FuncData
  d_adjugate_of : FuncData
  d_signed_minor : FuncData
  d_Grid_init : FuncData
  d_Grid_eq : FuncData
  d_Grid_sub : FuncData
  d_Grid_mul : FuncData
  d_Grid_scaled : FuncData
  d_Grid_transposed : FuncData
  d_Grid_is_square : FuncData
  d_Grid_determinant : FuncData
  d_Grid_adjugate : FuncData
  d_checked_rows : FuncData
  d_checked_width : FuncData
  d_check_same_size : FuncData
  d_check_square : FuncData
  d_tail_matrix : FuncData
  d_law_numbers : FuncData
  d_law_next : FuncData
  d_law_gram : FuncData
  d_law_norm : FuncData
  d_law_minor : FuncData
  d_law_determinant : FuncData
  d_law : FuncData
  C_Grid : Addr
  X_Malformed : Addr
  F_is_integer : Fun K "is_integer" "is_integer" s_is_integer a_is_integer d_is_integer
  b_is_integer : Binds K d_is_integer ["value"] []
  g_is_integer : mg "is_integer" = some (.ref a_is_integer)
  F_dot : Fun K "dot" "dot" s_dot a_dot d_dot
  b_dot : Binds K d_dot ["a", "b"] []
  g_dot : mg "dot" = some (.ref a_dot)
  F_determinant_of : Fun K "determinant_of" "determinant_of" s_determinant_of a_determinant_of d_determinant_of
  b_determinant_of : Binds K d_determinant_of ["rows"] []
  g_determinant_of : mg "determinant_of" = some (.ref a_determinant_of)
  F_first_with_head : Fun K "first_with_head" "first_with_head" s_first_with_head a_first_with_head d_first_with_head
  b_first_with_head : Binds K d_first_with_head ["rows"] []
  g_first_with_head : mg "first_with_head" = some (.ref a_first_with_head)
  F_cleared : Fun K "cleared" "cleared" s_cleared a_cleared d_cleared
  b_cleared : Binds K d_cleared ["top", "row", "last"] []
  g_cleared : mg "cleared" = some (.ref a_cleared)
  F_minor : Fun K "minor" "minor" s_minor a_minor d_minor
  b_minor : Binds K d_minor ["rows", "i", "j"] []
  g_minor : mg "minor" = some (.ref a_minor)
  F_adjugate_of : Fun K "adjugate_of" "adjugate_of" s_adjugate_of a_adjugate_of d_adjugate_of
  b_adjugate_of : Binds K d_adjugate_of ["rows"] []
  g_adjugate_of : mg "adjugate_of" = some (.ref a_adjugate_of)
  F_signed_minor : Fun K "signed_minor" "signed_minor" s_signed_minor a_signed_minor d_signed_minor
  b_signed_minor : Binds K d_signed_minor ["rows", "i", "j"] []
  g_signed_minor : mg "signed_minor" = some (.ref a_signed_minor)
  F_Grid_init : FunD K "__init__" "Grid.__init__" (defArgs s_Grid_init) (defBody s_Grid_init) (defScope s_Grid_init) [.non] [] a_Grid_init d_Grid_init
  b_Grid_init : Binds K d_Grid_init ["self", "rows", "width"] []
  F_Grid_eq : Fun K "__eq__" "Grid.__eq__" s_Grid_eq a_Grid_eq d_Grid_eq
  b_Grid_eq : Binds K d_Grid_eq ["self", "other"] []
  m_Grid_eq : Meth K C_Grid "__eq__" a_Grid_eq
  F_Grid_sub : Fun K "__sub__" "Grid.__sub__" s_Grid_sub a_Grid_sub d_Grid_sub
  b_Grid_sub : Binds K d_Grid_sub ["self", "other"] []
  m_Grid_sub : Meth K C_Grid "__sub__" a_Grid_sub
  F_Grid_mul : Fun K "__mul__" "Grid.__mul__" s_Grid_mul a_Grid_mul d_Grid_mul
  b_Grid_mul : Binds K d_Grid_mul ["self", "other"] []
  m_Grid_mul : Meth K C_Grid "__mul__" a_Grid_mul
  F_Grid_scaled : Fun K "scaled" "Grid.scaled" s_Grid_scaled a_Grid_scaled d_Grid_scaled
  b_Grid_scaled : Binds K d_Grid_scaled ["self", "k"] []
  m_Grid_scaled : Meth K C_Grid "scaled" a_Grid_scaled
  F_Grid_transposed : Fun K "transposed" "Grid.transposed" s_Grid_transposed a_Grid_transposed d_Grid_transposed
  b_Grid_transposed : Binds K d_Grid_transposed ["self"] []
  m_Grid_transposed : Meth K C_Grid "transposed" a_Grid_transposed
  F_Grid_is_square : Fun K "is_square" "Grid.is_square" s_Grid_is_square a_Grid_is_square d_Grid_is_square
  b_Grid_is_square : Binds K d_Grid_is_square ["self"] []
  m_Grid_is_square : Meth K C_Grid "is_square" a_Grid_is_square
  F_Grid_determinant : Fun K "determinant" "Grid.determinant" s_Grid_determinant a_Grid_determinant d_Grid_determinant
  b_Grid_determinant : Binds K d_Grid_determinant ["self"] []
  m_Grid_determinant : Meth K C_Grid "determinant" a_Grid_determinant
  F_Grid_adjugate : Fun K "adjugate" "Grid.adjugate" s_Grid_adjugate a_Grid_adjugate d_Grid_adjugate
  b_Grid_adjugate : Binds K d_Grid_adjugate ["self"] []
  m_Grid_adjugate : Meth K C_Grid "adjugate" a_Grid_adjugate
  F_checked_rows : Fun K "checked_rows" "checked_rows" s_checked_rows a_checked_rows d_checked_rows
  b_checked_rows : Binds K d_checked_rows ["rows"] []
  g_checked_rows : mg "checked_rows" = some (.ref a_checked_rows)
  F_checked_width : Fun K "checked_width" "checked_width" s_checked_width a_checked_width d_checked_width
  b_checked_width : Binds K d_checked_width ["rows", "width"] []
  g_checked_width : mg "checked_width" = some (.ref a_checked_width)
  F_check_same_size : Fun K "check_same_size" "check_same_size" s_check_same_size a_check_same_size d_check_same_size
  b_check_same_size : Binds K d_check_same_size ["a", "b"] []
  g_check_same_size : mg "check_same_size" = some (.ref a_check_same_size)
  F_check_square : Fun K "check_square" "check_square" s_check_square a_check_square d_check_square
  b_check_square : Binds K d_check_square ["a"] []
  g_check_square : mg "check_square" = some (.ref a_check_square)
  F_tail_matrix : Fun K "tail_matrix" "tail_matrix" s_tail_matrix a_tail_matrix d_tail_matrix
  b_tail_matrix : Binds K d_tail_matrix ["gram", "k"] []
  g_tail_matrix : mg "tail_matrix" = some (.ref a_tail_matrix)
  F_law_numbers : Fun K "_law_numbers" "_law_numbers" s_law_numbers a_law_numbers d_law_numbers
  b_law_numbers : Binds K d_law_numbers ["script"] []
  g_law_numbers : mg "_law_numbers" = some (.ref a_law_numbers)
  F_law_next : Fun K "_law_next" "_law_next" s_law_next a_law_next d_law_next
  b_law_next : Binds K d_law_next ["numbers", "many"] []
  g_law_next : mg "_law_next" = some (.ref a_law_next)
  F_law_gram : Fun K "_law_gram" "_law_gram" s_law_gram a_law_gram d_law_gram
  b_law_gram : Binds K d_law_gram ["numbers", "rank"] []
  g_law_gram : mg "_law_gram" = some (.ref a_law_gram)
  F_law_norm : Fun K "_law_norm" "_law_norm" s_law_norm a_law_norm d_law_norm
  b_law_norm : Binds K d_law_norm ["gram", "v"] []
  g_law_norm : mg "_law_norm" = some (.ref a_law_norm)
  F_law_minor : Fun K "_law_minor" "_law_minor" s_law_minor a_law_minor d_law_minor
  b_law_minor : Binds K d_law_minor ["gram", "size"] []
  g_law_minor : mg "_law_minor" = some (.ref a_law_minor)
  F_law_determinant : Fun K "_law_determinant" "_law_determinant" s_law_determinant a_law_determinant d_law_determinant
  b_law_determinant : Binds K d_law_determinant ["rows"] []
  g_law_determinant : mg "_law_determinant" = some (.ref a_law_determinant)
  F_law : Fun K "law" "law" s_law a_law d_law
  b_law : Binds K d_law ["script"] []
  g_law : mg "law" = some (.ref a_law)
  g_Grid : mg "Grid" = some (.ref C_Grid)
  cl_Grid : Cls K C_Grid
  mk_Grid : Mk K C_Grid a_Grid_init
  n_rows : NoAttr K C_Grid "rows"
  n_width : NoAttr K C_Grid "width"
  sf_Grid : PySem.W.selfFirst K C_Grid = true
  kc_Grid : PySem.W.findIn K (.ref C_Grid) "__class__" = some (some (.builtin "object.__class__"))
  kg_Grid : PySem.W.specialIn K (.builtin "object.__class__") "__get__" = some (some (.builtin "getset_descriptor.__get__"))
  kt_Grid : PySem.W.takesIn K (.builtin "object.__class__") = some true
  km_Grid : PySem.W.mroIn K C_Grid (.type "object") = some true
  ty_Grid : PySem.W.typeIn K (.ref C_Grid) = some (.type "type")
  ic_Grid : PySem.W.isClsIn K C_Grid = true
  ne_Grid : PySem.W.findIn K (.ref C_Grid) "__ne__" = some (some (.builtin "object.__ne__"))
  z_ValueError : mg "ValueError" = none
  z_abs : mg "abs" = none
  z_all : mg "all" = none
  z_bool : mg "bool" = none
  z_enumerate : mg "enumerate" = none
  z_int : mg "int" = none
  z_isinstance : mg "isinstance" = none
  z_len : mg "len" = none
  z_list : mg "list" = none
  z_min : mg "min" = none
  z_range : mg "range" = none
  z_sum : mg "sum" = none
  z_tuple : mg "tuple" = none
  z_zip : mg "zip" = none
  gX_Malformed : mg "Malformed" = some (.ref X_Malformed)
  xX_Malformed : PySem.W.excIn K X_Malformed [.type "ValueError", .type "Exception", .type "BaseException", .type "object"] "ValueError.__new__" = true
  kX_Malformed : PySem.W.keepIn K (.ref X_Malformed) = true
  bX_Malformed : PySem.W.subIn K (.ref X_Malformed) (.type "BaseException") = some true
  tX_Malformed : PySem.W.typeIn K (.ref X_Malformed) = some (.type "type")
  iX_Malformed : PySem.W.isClsIn K X_Malformed = true
  sX_Malformed : PySem.W.subIn K (.ref X_Malformed) (.ref X_Malformed) = some true
end K14
namespace K14
open PySem PySem.Spec PyProof.Rows L2 Gm
open C8 (Cal Met Mak pe_c pe_mt pe_mt0 pe_mk)
section
variable {P : Program} {w : World} {K : PySem.W.Frag} {mg : Str → Option Value} {base : Heap}
/-! ### is_integer -/
def sp_is_integer : Sp := fun vs H Q _ => ∃ i, vs = [V.int i] ∧ Q (.bl true) H
theorem ok_is_integer (T : Top K mg) : FnOk P w K mg base CX0 1 T.a_is_integer T.d_is_integer ["value"] sp_is_integer := by
  refine T.F_is_integer.ok sc_is_integer (fun vs H Q E h => ?_) (fun cdv A outer s H vs Q E hr h => ?_)
  · obtain ⟨i, rfl, _⟩ := h
    rfl
  · obtain ⟨i, rfl, q⟩ := h
    refine ⟨_, (pss_one (ps_ret (pe_and (pe_callB (isiK K rfl) (by rfl) T.z_isinstance (by decide +kernel) (pa_cons (pv 0) (pa_cons (pe_bltn (v := .ty "int") (by rfl) T.z_int (by decide +kernel) rfl) pa_nil))) (pe_one (pe_not (pe_callB (isiK K rfl) (by rfl) T.z_isinstance (by decide +kernel) (pa_cons (pv 0) (pa_cons (pe_bltn (v := .ty "bool") (by rfl) T.z_bool (by decide +kernel) rfl) pa_nil)))))))), ?_⟩
    refine ⟨_, rfl, .int i, .ty "int", _, _, true, rfl, .ty "int", .base (.int i), kit_ty (by decide +kernel), true, rfl, iteT ?_⟩
    exact ⟨_, rfl, .int i, .ty "bool", _, _, false, rfl, .ty "bool", .base (.int i), kit_ty (by decide +kernel), false, rfl, q⟩
theorem cal_is_integer (T : Top K mg) (hN : base.NoSeer) (hT : P.given.tree = none) : Cal P w K mg base 1 "is_integer" sp_is_integer [] := ⟨⟨_, _, _, [], ok_is_integer T, T.g_is_integer, T.F_is_integer.kp, T.b_is_integer, .nil⟩⟩
/-! ### first_with_head -/
/-- the first place from k on whose row does not begin with 0 -/
def firstHead : List (List Int) → Nat → Option Nat
  | [], _ => none
  | r :: rs, k => if r.headD 0 ≠ 0 then some k else firstHead rs (k + 1)
theorem firstHead_step : ∀ (m : List (List Int)) (i j : Nat) (r : List Int), m[i]? = some r → (∀ k, k < i → ∀ r', m[k]? = some r' → r'.headD 0 = 0) → firstHead m j = if r.headD 0 ≠ 0 then some (j + i) else firstHead (m.drop (i + 1)) (j + i + 1)
  | [], i, j, r, h, _ => by simp at h
  | a :: m, 0, j, r, h, _ => by
    have e : a = r := by simpa using h
    subst e
    rfl
  | a :: m, i + 1, j, r, h, z => by
    have h0 : a.headD 0 = 0 := z 0 (Nat.succ_pos _) a rfl
    show (if a.headD 0 ≠ 0 then some j else firstHead m (j + 1)) = _
    rw [if_neg (by rw [h0]; simp), firstHead_step m i (j + 1) r (by simpa using h) fun k hk r' e => z (k + 1) (by omega) r' (by simpa using e)]
    rw [show j + 1 + i = j + (i + 1) by omega]
    rfl
theorem firstHead_none {m : List (List Int)} : ∀ {j : Nat}, (∀ r ∈ m, r.headD 0 = 0) → firstHead m j = none := by
  induction m with
  | nil => intro _ _; rfl
  | cons a m ih =>
    intro j h
    show (if a.headD 0 ≠ 0 then some j else firstHead m (j + 1)) = none
    rw [if_neg (by rw [h a (List.mem_cons_self ..)]; simp), ih fun r hr => h r (List.mem_cons_of_mem _ hr)]
def optV : Option Nat → V
  | none => .non
  | some k => .int k
def sp_first_with_head (K : PySem.W.Frag) : Sp := fun vs H Q _ => ∃ v m, vs = [v] ∧ IRows K H v m ∧ m.length ≤ 1000 ∧ (∀ r ∈ m, r ≠ []) ∧ ∀ H', Same H H' → Q (optV (firstHead m 0)) H'
theorem ok_first_with_head (T : Top K mg) : FnOk P w K mg base CX0 1 T.a_first_with_head T.d_first_with_head ["rows"] (sp_first_with_head K) := by
  refine T.F_first_with_head.ok sc_first_with_head (fun vs H Q E h => ?_) (fun cdv A outer s H vs Q E hr h => ?_)
  · obtain ⟨v, m, rfl, _⟩ := h
    rfl
  · obtain ⟨v, m, rfl, ⟨a, vs, rfl, hs, hp⟩, hl, hne, q⟩ := h
    refine ⟨_, (pss_cons (ps_for PassesOwn.never rfl (piEnum K rfl (by rfl) T.z_enumerate (pa_cons (pv 0) pa_nil)) (pg_tup rfl (pgs_cons (pg_name (i := 1) sc_first_with_head.nd rfl (by first | exact .inl rfl | exact .inr rfl)) (pgs_cons (pg_name (i := 2) sc_first_with_head.nd rfl (by first | exact .inl rfl | exact .inr rfl)) pgs_nil)))
      (pss_one (ps_if (pt_cmpR op_ne (pe_ix (ixS K rfl) (pv 2) pe_int (fun _ _ => rfl)) pe_int (nomark _))
      (pss_one (ps_ret (pv 1)))
      pss_nil)))
      (pss_one (ps_ret pe_non))), ?_⟩
    have lv := Paired.length hp
    refine ⟨_, rfl, a, vs, rfl, hs, fun J G W hG => ?_⟩
    refine for_it W (fun i σ H2 => ∃ y1 y2, σ = [some (.ref a), y1, y2] ∧ Same H H2 ∧ ∀ k, k < i → ∀ r, m[k]? = some r → r.headD 0 = 0) ⟨none, none, rfl, Same.refl H, fun k hk => absurd hk (Nat.not_lt_zero _)⟩ ?_ ?_ ?_
    · rintro i σ H2 hi ⟨y1, y2, rfl, s2, _⟩
      exact hG _ fun b _ o => s2 b o
    · rintro i x σ H2 H2' hi ⟨y1, y2, rfl, s2, hz⟩ ⟨U, x1, x2, rfl, nU, rfl, e1, e2⟩
      cases e1
      obtain ⟨r, er, a2, rfl, hs2⟩ := Paired.getR hp e2
      have hmr : r ∈ m := List.mem_of_getElem? er
      obtain ⟨z, r', rfl⟩ : ∃ z r', r = z :: r' := by
        cases r with
        | nil => exact absurd rfl (hne _ hmr)
        | cons z r' => exact ⟨z, r', rfl⟩
      have sU : Same H2 (upd H2 U (.tup [.int (i : Nat), .ref a2])) := same_upd nU
      refine g_pair nU ?_
      have hs3 := hs2.same (s2.trans sU)
      refine ⟨_, rfl, ?_⟩
      have at0 : atI ((z :: r').map V.int) 0 = some (.int z) := atI_nat (j := 0) rfl
      refine rIx_seq hs3 at0 ?_
      refine ⟨rfl, _, rfl, ?_⟩
      by_cases hz0 : z = 0
      · subst hz0
        refine iteNS rfl ?_
        refine ⟨_, _, rfl, s2.trans sU, fun k hk r'' e => ?_⟩
        by_cases hki : k = i
        · subst hki
          rw [er] at e
          cases e
          rfl
        · exact hz k (by omega) r'' e
      · rw [show decide (V.int z = V.int 0) = false from decide_eq_false fun e => hz0 (V.int.inj e)]
        refine iteT ?_
        refine ⟨_, rfl, ?_⟩
        have e := firstHead_step m i 0 (z :: r') er hz
        rw [if_pos (show (z :: r').headD 0 ≠ 0 from hz0), Nat.zero_add] at e
        rw [e] at q
        exact q _ (s2.trans sU)
    · rintro σ H2 ⟨y1, y2, rfl, s2, hz⟩
      have e : firstHead m 0 = none := firstHead_none fun r hr => by
        obtain ⟨k, hk⟩ := List.getElem?_of_mem hr
        refine hz k ?_ r hk
        rw [lv]
        exact (List.getElem?_eq_some_iff.mp hk).1
      rw [e] at q
      exact q _ s2
theorem cal_first_with_head (T : Top K mg) (hN : base.NoSeer) (hT : P.given.tree = none) : Cal P w K mg base 1 "first_with_head" (sp_first_with_head K) [] := ⟨⟨_, _, _, [], ok_first_with_head T, T.g_first_with_head, T.F_first_with_head.kp, T.b_first_with_head, .nil⟩⟩

end
end K14
namespace K14
open PySem PySem.Spec PyProof.Rows L2 Gm
open C8 (Cal Met Mak pe_c pe_mt pe_mt0 pe_mk)
section
variable {P : Program} {w : World} {K : PySem.W.Frag} {mg : Str → Option Value} {base : Heap}
/-! ### cleared -/
/-- the items of the row behind its first, once that is made 0 by the top row -/
def clr (ts rs : List Int) (l : Int) : List Int := List.zipWith (fun a b => (ts.headD 0 * b - rs.headD 0 * a).fdiv l) ts.tail rs.tail
theorem clr_len {ts rs : List Int} {l : Int} (h : ts.length = rs.length) : (clr ts rs l).length = ts.length - 1 := by
  unfold clr
  rw [List.length_zipWith, List.length_tail, List.length_tail, h, Nat.min_self]
theorem clr_get {ts rs : List Int} {l : Int} {k : Nat} {a b : Int} (h1 : ts[k + 1]? = some a) (h2 : rs[k + 1]? = some b) : (clr ts rs l)[k]? = some ((ts.headD 0 * b - rs.headD 0 * a).fdiv l) := by
  unfold clr
  rw [List.getElem?_zipWith]
  have e1 : ts.tail[k]? = some a := by rw [List.getElem?_tail]; exact h1
  have e2 : rs.tail[k]? = some b := by rw [List.getElem?_tail]; exact h2
  rw [e1, e2]
/-- all items have fewer than B bits -/
def Bits (B : Nat) (ns : List Int) : Prop := ∀ x ∈ ns, x.natAbs < 2 ^ B
theorem Bits.at {B : Nat} {ns : List Int} {k : Nat} {x : Int} (h : Bits B ns) (e : ns[k]? = some x) : x.natAbs < 2 ^ B := h x (List.mem_of_getElem? e)
def sp_cleared (K : PySem.W.Frag) : Sp := fun vs H Q _ => ∃ v1 v2 ts rs l B, vs = [v1, v2, V.int l] ∧ IRow K H v1 ts ∧ IRow K H v2 rs ∧ ts.length = rs.length ∧ 0 < ts.length ∧ ts.length ≤ 1000 ∧ l ≠ 0 ∧ Bits B ts ∧ Bits B rs ∧ B ≤ 60000000 ∧
  ∀ H' p, Same H H' → H p = none → H' p = some (.lst ((clr ts rs l).map V.int)) → Q (.ref p) H'
theorem ok_cleared (T : Top K mg) (hN : base.NoSeer) (hT : P.given.tree = none) : FnOk P w K mg base CX0 41 T.a_cleared T.d_cleared ["top", "row", "last"] (sp_cleared K) := by
  refine T.F_cleared.ok sc_cleared (fun vs H Q E h => ?_) (fun cdv A outer s H vs Q E hr h => ?_)
  · obtain ⟨v1, v2, ts, rs, l, B, rfl, _⟩ := h
    rfl
  · obtain ⟨v1, v2, ts, rs, l, B, rfl, ⟨a, rfl, ht⟩, ⟨b, rfl, hr'⟩, hl, h0, hl2, hl0, bt, br, hB, q⟩ := h
    refine ⟨_, (pss_one (ps_ret (pe_lc (own := [("k", 3)]) (g := (gName 3)) (by rfl) sc_cleared.nd (pi_range2 (by rfl) T.z_range (pa_cons pe_int (pa_cons (pe_callB (lenS K rfl) (by rfl) T.z_len (by decide +kernel) (pa_cons (pv 0) pa_nil)) pa_nil))) ((by show BlkOk ["top", "row", "last", "k"] (defScope s_cleared) _ _; exact blkOk_by (by decide +kernel))) (fun _ _ _ _ _ => (pg_name (i := 3) sc_cleared.nd rfl (by first | exact .inl rfl | exact .inr rfl))) (fun _ _ _ _ _ => pts_nil) (fun _ _ _ _ _ => (pe_op (op_fdivQ hN rfl rfl rfl rfl rfl hT (room100 hr (by decide))) (pe_op op_sub (pe_op op_mulX (pe_ix (ixS K rfl) (pv 0) pe_int (fun _ _ => rfl)) (pe_ix (ixS K rfl) (pv 1) (pv 3) (fun _ _ => rfl))) (pe_op op_mulX (pe_ix (ixS K rfl) (pv 1) pe_int (fun _ _ => rfl)) (pe_ix (ixS K rfl) (pv 0) (pv 3) (fun _ _ => rfl)))) (pv 2)))))), ?_⟩
    refine ⟨_, rfl, a, _, rfl, ht, 1, _, rfl, ⟨by decide, by decide, by rw [List.length_map]; omega, by rw [List.length_map]; omega⟩, fun D hD => ?_⟩
    refine lc_all walk_range hD (by rw [List.length_map]; omega) (fun _ _ => trivial) (fun i v _ => ∃ x y, ts[i + 1]? = some x ∧ rs[i + 1]? = some y ∧ v = .int ((ts.headD 0 * y - rs.headD 0 * x).fdiv l)) (fun _ _ _ _ _ _ _ h => h) ?_ gm_name ?_
    · rintro i x H2 H2' acc Ko hi s2 eD ⟨rfl, rfl⟩ k
      refine ⟨rfl, ?_⟩
      have hi' : i + 1 < ts.length := by
        rw [List.length_map] at hi
        omega
      have hi2 : i + 1 < rs.length := by omega
      have e0 : atI (ts.map V.int) 0 = some (.int (ts.headD 0)) := by
        cases ts with
        | nil => exact absurd h0 (by simp)
        | cons t ts => exact atI_nat (j := 0) rfl
      have f0 : atI (rs.map V.int) 0 = some (.int (rs.headD 0)) := by
        cases rs with
        | nil => rw [List.length_nil] at hi2; omega
        | cons t ts => exact atI_nat (j := 0) rfl
      have e1 : atI (ts.map V.int) (1 + (i : Nat)) = some (.int ts[i + 1]) := at_of (j := i + 1) (by omega) (ints_at (List.getElem?_eq_getElem hi'))
      have f1 : atI (rs.map V.int) (1 + (i : Nat)) = some (.int rs[i + 1]) := at_of (j := i + 1) (by omega) (ints_at (List.getElem?_eq_getElem hi2))
      have bt0 : (ts.headD 0).natAbs < 2 ^ B := by
        cases ts with
        | nil => exact absurd h0 (by simp)
        | cons t ts => exact bt t (List.mem_cons_self ..)
      have br0 : (rs.headD 0).natAbs < 2 ^ B := by
        cases rs with
        | nil => rw [List.length_nil] at hi2; omega
        | cons t ts => exact br t (List.mem_cons_self ..)
      refine ⟨_, rfl, ?_⟩
      refine rIx_seq (ht.same s2) e0 ?_
      refine ⟨_, rfl, _, rfl, ?_⟩
      refine rIx_seq (hr'.same s2) f1 ?_
      refine ⟨_, _, rfl, rfl, mulx_ok bt0 (br.at (List.getElem?_eq_getElem hi2)) (by omega), ?_⟩
      refine ⟨_, rfl, ?_⟩
      refine rIx_seq (hr'.same s2) f0 ?_
      refine ⟨_, rfl, _, rfl, ?_⟩
      refine rIx_seq (ht.same s2) e1 ?_
      refine ⟨_, _, rfl, rfl, mulx_ok br0 (bt.at (List.getElem?_eq_getElem hi')) (by omega), ?_⟩
      refine ⟨_, _, rfl, rfl, ?_⟩
      refine ⟨_, rfl, _, l, rfl, rfl, hl0, ?_⟩
      exact k _ _ (Same.refl _) ⟨_, _, List.getElem?_eq_getElem hi', List.getElem?_eq_getElem hi2, rfl⟩
    · intro H2 lst s2 eD hp
      have el : lst = (clr ts rs l).map V.int := by
        apply List.ext_getElem?
        intro i
        have ln := Paired.length hp
        rw [List.length_range, List.length_map] at ln
        have lc := clr_len (l := l) hl
        by_cases hi : i < lst.length
        · obtain ⟨j, ej, x, y, ex, ey, ev⟩ := Paired.getL hp (List.getElem?_eq_getElem hi)
          have hj : j = i := by
            have := List.getElem?_range (n := ((ts.length : Int) - 1).toNat) (i := i) (by omega)
            rw [List.length_map] at ej
            rw [this] at ej
            exact (Option.some.inj ej).symm
          subst hj
          rw [List.getElem?_eq_getElem hi, ev, List.getElem?_map, clr_get ex ey]
          rfl
        · rw [List.getElem?_eq_none (by omega), List.getElem?_eq_none (by rw [List.length_map]; omega)]
      rw [el] at eD
      exact q H2 D s2 hD eD
theorem cal_cleared (T : Top K mg) (hN : base.NoSeer) (hT : P.given.tree = none) : Cal P w K mg base 41 "cleared" (sp_cleared K) [] := ⟨⟨_, _, _, [], ok_cleared T hN hT, T.g_cleared, T.F_cleared.kp, T.b_cleared, .nil⟩⟩

end
end K14
namespace K14
open PySem PySem.Spec PyProof.Rows L2 Gm
open C8 (Cal Met Mak pe_c pe_mt pe_mt0 pe_mk)
section
variable {P : Program} {w : World} {K : PySem.W.Frag} {mg : Str → Option Value} {base : Heap}
/-! ### determinant_of -/
/-- the elimination without fractions, by the number of rows -/
def bare : Nat → Int → Int → List (List Int) → Int
  | 0, s, l, _ => s * l
  | n + 1, s, l, m => match firstHead m 0 with
    | none => 0
    | some k => bare n (if k % 2 = 1 then -s else s) ((m.getD k []).headD 0) ((m.eraseIdx k).map fun r => clr (m.getD k []) r l)
theorem firstHead_some : ∀ {m : List (List Int)} {j k : Nat}, firstHead m j = some k → j ≤ k ∧ k < j + m.length ∧ (m.getD (k - j) []).headD 0 ≠ 0
  | [], _, _, h => by cases h
  | a :: m, j, k, h => by
    by_cases ha : a.headD 0 ≠ 0
    · have e : firstHead (a :: m) j = some j := if_pos ha
      rw [e] at h
      cases h
      refine ⟨Nat.le_refl _, by simp, ?_⟩
      rw [Nat.sub_self]
      exact ha
    · have e : firstHead (a :: m) j = firstHead m (j + 1) := if_neg ha
      rw [e] at h
      obtain ⟨h1, h2, h3⟩ := firstHead_some h
      refine ⟨by omega, by rw [List.length_cons]; omega, ?_⟩
      rw [show k - j = (k - (j + 1)) + 1 by omega]
      exact h3
theorem fdiv_le (x l : Int) : (x.fdiv l).natAbs ≤ x.natAbs := by
  cases x with
  | ofNat m =>
    cases l with
    | ofNat n =>
      show (Int.fdiv (m : Int) (n : Int)).natAbs ≤ m
      rw [Int.fdiv_eq_ediv_of_nonneg _ (by omega)]
      show m / n ≤ m
      exact Nat.div_le_self _ _
    | negSucc n =>
      cases m with
      | zero => exact Nat.le_refl _
      | succ m =>
        show (m / (n + 1)) + 1 ≤ m + 1
        have := Nat.div_le_self m (n + 1)
        omega
  | negSucc m =>
    cases l with
    | ofNat n =>
      cases n with
      | zero => exact Nat.zero_le _
      | succ n =>
        show (m / (n + 1)) + 1 ≤ m + 1
        have := Nat.div_le_self m (n + 1)
        omega
    | negSucc n =>
      show (m + 1) / (n + 1) ≤ m + 1
      exact Nat.div_le_self _ _
theorem clr_bits {ts rs : List Int} {l : Int} {B : Nat} (bt : Bits B ts) (br : Bits B rs) : Bits (2 * B + 1) (clr ts rs l) := by
  intro x hx
  obtain ⟨k, hk⟩ := List.getElem?_of_mem hx
  unfold clr at hk
  rw [List.getElem?_zipWith] at hk
  cases e1 : ts.tail[k]? with
  | none => rw [e1] at hk; cases hk
  | some a =>
    cases e2 : rs.tail[k]? with
    | none => rw [e1, e2] at hk; cases hk
    | some b =>
      rw [e1, e2] at hk
      have ex : (ts.headD 0 * b - rs.headD 0 * a).fdiv l = x := Option.some.inj hk
      rw [← ex]
      refine Nat.lt_of_le_of_lt (fdiv_le _ _) ?_
      have ha : a.natAbs < 2 ^ B := bt a (List.mem_of_mem_tail (List.mem_of_getElem? e1))
      have hb : b.natAbs < 2 ^ B := br b (List.mem_of_mem_tail (List.mem_of_getElem? e2))
      have h1 : (ts.headD 0).natAbs < 2 ^ B := by
        cases ts with
        | nil => cases e1
        | cons t ts => exact bt t (List.mem_cons_self ..)
      have h2 : (rs.headD 0).natAbs < 2 ^ B := by
        cases rs with
        | nil => cases e2
        | cons t ts => exact br t (List.mem_cons_self ..)
      have p1 := wide_lt h1 hb
      have p2 := wide_lt h2 ha
      have e3 : 2 ^ (2 * B + 1) = 2 ^ (B + B) + 2 ^ (B + B) := by rw [show 2 * B + 1 = (B + B) + 1 by omega, Nat.pow_succ]; omega
      rw [e3]
      omega
/-- a square matrix of size n whose items have fewer than B bits -/
structure Sq (n B : Nat) (m : List (List Int)) : Prop where
  len : m.length = n
  row : ∀ r ∈ m, r.length = n
  bits : ∀ r ∈ m, Bits B r
theorem Sq.next {n B : Nat} {m : List (List Int)} (h : Sq (n + 1) B m) {k : Nat} (hk : k < n + 1) (l : Int) : Sq n (2 * B + 1) ((m.eraseIdx k).map fun r => clr (m.getD k []) r l) := by
  have hk' : k < m.length := by rw [h.len]; exact hk
  have eg : m.getD k [] = m[k] := by rw [List.getD_eq_getElem?_getD, List.getElem?_eq_getElem hk']; rfl
  have hm : m.getD k [] ∈ m := by rw [eg]; exact List.getElem_mem _
  refine ⟨?_, fun r hr => ?_, fun r hr => ?_⟩
  · rw [List.length_map, List.length_eraseIdx_of_lt hk', h.len]
    rfl
  · obtain ⟨r', hr', rfl⟩ := List.mem_map.mp hr
    have h1 := h.row r' (List.mem_of_mem_eraseIdx hr')
    have h2 := h.row _ hm
    rw [clr_len (by omega)]
    omega
  · obtain ⟨r', hr', rfl⟩ := List.mem_map.mp hr
    exact clr_bits (h.bits _ hm) (h.bits _ (List.mem_of_mem_eraseIdx hr'))
/-- the places that are kept -/
theorem filter_ne_range (n k : Nat) : (List.range n).filter (fun i => decide (i ≠ k)) = (List.range n).eraseIdx k := by
  induction n with
  | zero => simp
  | succ n ih =>
    rw [List.range_succ, List.filter_append, ih, List.filter_cons, List.filter_nil]
    by_cases h : n = k
    · subst h
      rw [if_neg (by simp), List.append_nil, List.eraseIdx_append_of_length_le (by simp), List.length_range, Nat.sub_self]
      simp [List.eraseIdx_of_length_le]
    · rw [if_pos (by simpa using h)]
      by_cases h2 : k < n
      · rw [List.eraseIdx_append_of_lt_length (by simpa using h2)]
      · rw [List.eraseIdx_of_length_le (by simp; omega), List.eraseIdx_of_length_le (by simp; omega)]
theorem map_range_get (m : List (List Int)) : (List.range m.length).map (fun i => m.getD i []) = m := by
  apply List.ext_getElem?
  intro i
  rw [List.getElem?_map]
  by_cases h : i < m.length
  · rw [List.getElem?_range h, List.getElem?_eq_getElem h]
    show some (m.getD i []) = _
    rw [List.getD_eq_getElem?_getD, List.getElem?_eq_getElem h]
    rfl
  · rw [List.getElem?_eq_none (by simpa using h), List.getElem?_eq_none (by omega)]
    rfl
theorem eraseIdx_map' {α β : Type} (f : α → β) : ∀ (l : List α) (k : Nat), (l.map f).eraseIdx k = (l.eraseIdx k).map f
  | [], _ => rfl
  | _ :: _, 0 => rfl
  | a :: l, k + 1 => congrArg (f a :: ·) (eraseIdx_map' f l k)
theorem erase_map_range {β : Type} (m : List (List Int)) (k : Nat) (f : List Int → β) : (m.eraseIdx k).map f = ((List.range m.length).eraseIdx k).map fun i => f (m.getD i []) := by
  have h : m.eraseIdx k = ((List.range m.length).eraseIdx k).map fun i => m.getD i [] := by
    rw [← eraseIdx_map', map_range_get]
  rw [h, List.map_map]
  rfl
theorem paired_map {α β γ : Type} {F : α → γ → Prop} {f : β → γ} : ∀ {l : List α} {is : List β}, Paired (fun i v => F v (f i)) is l → Paired F l (is.map f)
  | _, _, .nil => .nil
  | _, _, .cons r t => .cons r (paired_map t)
def sp_determinant_of (K : PySem.W.Frag) : Sp := fun vs H Q _ => ∃ v m n B, vs = [v] ∧ IRows K H v m ∧ Sq n B m ∧ n ≤ 5 ∧ B ≤ 1200000 ∧ ∀ H', Same H H' → Q (.int (bare n 1 1 m)) H'
theorem ok_determinant_of (T : Top K mg) (hN : base.NoSeer) (hT : P.given.tree = none) : FnOk P w K mg base CX0 42 T.a_determinant_of T.d_determinant_of ["rows"] (sp_determinant_of K) := by
  refine T.F_determinant_of.ok sc_determinant_of (fun vs H Q E h => ?_) (fun cdv A outer s H vs Q E hr h => ?_)
  · obtain ⟨v, m, n, B, rfl, _⟩ := h
    rfl
  · obtain ⟨v, m, n, B, rfl, hm, hsq, hn, hB, q⟩ := h
    have hr1 := hr
    refine ⟨_, (pss_cons (ps_set (i := 1) sc_determinant_of.nd rfl (by first | exact .inl rfl | exact .inr rfl) pe_int)
      (pss_cons (ps_set (i := 2) sc_determinant_of.nd rfl (by first | exact .inl rfl | exact .inr rfl) pe_int)
      (pss_cons (ps_while PassesOwn.never (pt_cmpR op_gt (pe_callB (lenS K rfl) (by rfl) T.z_len (by decide +kernel) (pa_cons (pv 0) pa_nil)) pe_int (nomark _))
      (pss_cons (ps_set (i := 3) sc_determinant_of.nd rfl (by first | exact .inl rfl | exact .inr rfl) (pe_c (cal_first_with_head T hN hT) hr (by decide) (by rfl) (pa_cons (pv 0) pa_nil)))
      (pss_cons (ps_if (pt_cmpR op_isN (pv 3) pe_non (nomark _))
      (pss_one (ps_ret pe_int))
      pss_nil)
      (C8.pss_cut (ps_if (pt_truth (pe_op op_odd (pv 3) pe_int) (by intro _; rfl))
      (pss_one (ps_set (i := 1) sc_determinant_of.nd rfl (by first | exact .inl rfl | exact .inr rfl) (pe_un un_neg (pv 1))))
      pss_nil)
      (pss_cons (ps_set (i := 4) sc_determinant_of.nd rfl (by first | exact .inl rfl | exact .inr rfl) (pe_ix (ixS K rfl) (pv 0) (pv 3) (fun _ _ => rfl)))
      (pss_cons (ps_setLc (i := 0) (own := [("k", 5), ("row", 6)]) (g := (gTup K 2 (gCons (gName 5) (gCons (gName 6) gNil)))) (by rfl) sc_determinant_of.nd rfl rfl (sw_true rfl rfl rfl (by decide +kernel)) (piEnum K rfl (by rfl) T.z_enumerate (pa_cons (pv 0) pa_nil)) ((by show BlkOk ["rows", "sign", "last", "at", "top", "k", "row"] (defScope s_determinant_of) _ _; exact blkOk_by (by decide +kernel))) (fun _ _ _ _ _ => (pg_tup rfl (pgs_cons (pg_name (i := 5) sc_determinant_of.nd rfl (by first | exact .inl rfl | exact .inr rfl)) (pgs_cons (pg_name (i := 6) sc_determinant_of.nd rfl (by first | exact .inl rfl | exact .inr rfl)) pgs_nil)))) (fun _ _ _ _ _ => (pts_one (pt_cmpR op_ne (pv 5) (pv 3) (nomark _)))) (fun _ _ _ _ _ => (pe_c (cal_cleared T hN hT) hr (by decide) (by rfl) (pa_cons (pv 4) (pa_cons (pv 6) (pa_cons (pv 2) pa_nil))))))
      (pss_one (ps_set (i := 2) sc_determinant_of.nd rfl (by first | exact .inl rfl | exact .inr rfl) (pe_ix (ixS K rfl) (pv 4) pe_int (fun _ _ => rfl))))))))))
      (pss_one (ps_ret (pe_op op_mulX (pv 1) (pv 2))))))), ?_⟩
    -- sign = 1; last = 1; while len(rows) > 0
    refine ⟨fun j σ H2 => ∃ v2 m2 s2 l2 B2 y3 y4 y5 y6, σ = [some v2, some (.int s2), some (.int l2), y3, y4, y5, y6] ∧ Same H H2 ∧ IRows K H2 v2 m2 ∧ Sq j B2 m2 ∧ j ≤ 5 ∧ (B2 + 1) * 2 ^ j ≤ 60000000 ∧ l2 ≠ 0 ∧ l2.natAbs < 2 ^ 60000000 ∧ s2.natAbs ≤ 1 ∧ bare j s2 l2 m2 = bare n 1 1 m,
      ⟨n, v, m, 1, 1, B, none, none, none, none, rfl, Same.refl H, hm, hsq, hn, ?_, by decide, ?_, by decide, rfl⟩, ?_⟩
    · have : 2 ^ n ≤ 2 ^ 5 := Nat.pow_le_pow_right (by decide) hn
      have e5 : (2 : Nat) ^ 5 = 32 := rfl
      have := Nat.mul_le_mul (show B + 1 ≤ 1200001 by omega) this
      omega
    · exact Nat.lt_of_lt_of_le (by decide : (1 : Int).natAbs < 2 ^ 1) (Nat.pow_le_pow_right (by decide) (by decide))
    · rintro j σ H2 ⟨v2, m2, s2, l2, B2, y3, y4, y5, y6, rfl, sm, hm2, sq2, hj, hB2, hl0, hlb, hs1, eb⟩
      obtain ⟨a2, ws, rfl, hs2, hp2⟩ := id hm2
      have lw := Paired.length hp2
      have lm := sq2.len
      refine ⟨_, rfl, a2, ws, rfl, hs2, _, _, rfl, rfl, _, rfl, ?_⟩
      cases j with
      | zero =>
        rw [decide_eq_false (by rw [lw, lm]; decide)]
        refine iteF ?_
        -- return sign * last
        refine ⟨_, rfl, _, rfl, _, _, rfl, rfl, ?_, ?_⟩
        · have h1 : s2.natAbs < 2 ^ 1 := by omega
          exact mulx_ok h1 hlb (by decide)
        · show Q (.int (s2 * l2)) H2
          rw [show s2 * l2 = bare n 1 1 m from eb]
          exact q _ sm
      | succ j =>
        rw [decide_eq_true (by rw [lw, lm]; omega)]
        refine iteT ?_
        refine ⟨fun σ' H' => ∃ v2 m2 s2 l2 B2 y3 y4 y5 y6, σ' = [some v2, some (.int s2), some (.int l2), y3, y4, y5, y6] ∧ Same H H' ∧ IRows K H' v2 m2 ∧ Sq j B2 m2 ∧ j ≤ 5 ∧ (B2 + 1) * 2 ^ j ≤ 60000000 ∧ l2 ≠ 0 ∧ l2.natAbs < 2 ^ 60000000 ∧ s2.natAbs ≤ 1 ∧ bare j s2 l2 m2 = bare n 1 1 m, fun σ' H' h => ⟨j, Nat.lt_succ_self _, h⟩, ?_⟩
        -- at = first_with_head(rows)
        refine ⟨_, rfl, _, m2, rfl, hm2, by omega, fun r hr e => ?_, fun H3 s3 => ?_⟩
        · have := sq2.row r hr
          rw [e] at this
          cases this
        have eb' : bare (j + 1) s2 l2 m2 = match firstHead m2 0 with
            | none => 0
            | some k => bare j (if k % 2 = 1 then -s2 else s2) ((m2.getD k []).headD 0) ((m2.eraseIdx k).map fun r => clr (m2.getD k []) r l2) := rfl
        rw [eb'] at eb
        cases ef : firstHead m2 0 with
        | none =>
          rw [ef] at eb
          refine ⟨_, rfl, rfl, _, rfl, ?_⟩
          rw [show decide (optV none = V.non) = true from decide_eq_true rfl]
          refine iteT ?_
          show Q (.int 0) H3
          rw [show (0 : Int) = bare n 1 1 m from eb]
          exact q _ (sm.trans s3)
        | some k =>
          rw [ef] at eb
          obtain ⟨_, hk, hh⟩ := firstHead_some ef
          rw [Nat.zero_add, lm] at hk
          rw [Nat.sub_zero] at hh
          have hk' : k < m2.length := by omega
          have eg : m2[k]? = some (m2.getD k []) := by rw [List.getD_eq_getElem?_getD, List.getElem?_eq_getElem hk']; rfl
          have hmk : m2.getD k [] ∈ m2 := List.mem_of_getElem? eg
          refine ⟨_, rfl, rfl, _, rfl, ?_⟩
          rw [show decide (optV (some k) = V.non) = false from decide_eq_false fun z => by cases z]
          refine iteF ?_
          -- if at & 1: sign = -sign
          refine ⟨fun σ' H' => H' = H3 ∧ σ' = [some (.ref a2), some (.int (if k % 2 = 1 then -s2 else s2)), some (.int l2), some (.int k), y4, y5, y6], ?_, ?_⟩
          · refine ⟨_, rfl, k, rfl, rfl, _, rfl, ?_⟩
            by_cases hk2 : k % 2 = 1
            · rw [show (((k % 2 : Nat) : Int) != 0) = true by rw [hk2]; rfl]
              refine iteT ?_
              refine ⟨_, rfl, _, rfl, rfl, ?_⟩
              rw [if_pos hk2]
              rfl
            · rw [show (((k % 2 : Nat) : Int) != 0) = false by rw [show k % 2 = 0 by omega]; rfl]
              refine iteF ?_
              refine ⟨rfl, ?_⟩
              rw [if_neg hk2]
              rfl
          · rintro σ' H' ⟨rfl, rfl⟩
            have hs3 := hs2.same s3
            have hm3 := hm2.same s3
            obtain ⟨_, ws3, e3, _, hp3⟩ := id hm3
            -- top = rows[at]
            obtain ⟨vt, et, hvt⟩ := Paired.getR (Paired.swap (L2.Paired.mapP hp2 fun _ _ => IRow.same s3)) eg
            refine ⟨_, rfl, _, rfl, ?_⟩
            refine rIx_seq hs3 (atI_nat (j := k) et) ?_
            -- rows = [cleared(top, row, last) for k, row in enumerate(rows) if k != at]
            refine ⟨_, rfl, a2, ws, rfl, hs3, fun J G W hG D hD => ?_⟩
            refine lc_gen W hD (by omega) (fun H4 s4 => hG H4 fun b _ o => s4 b o) (fun i => decide (i ≠ k)) (fun i v H4 => ∃ p, v = .ref p ∧ p ≠ D ∧ H4 p = some (.lst ((clr (m2.getD k []) (m2.getD i []) l2).map V.int))) ?_ ?_ ?_
            · rintro i v H4 H5 acc _ off ⟨p, rfl, hp, e⟩
              exact ⟨p, rfl, hp, off p _ hp e⟩
            · rintro i x H4 H4' acc Ko Kn hi s4 eD ⟨U, x1, x2, rfl, nU, rfl, e1, e2⟩ kk kn
              cases e1
              have sU : Same H4 (upd H4 U (.tup [.int (i : Nat), x2])) := same_upd nU
              obtain ⟨r, er, hr2⟩ := Paired.getR (L2.Paired.mapP hp2 fun _ _ => IRow.same (s3.trans (s4.trans sU))) e2
              have egr : m2.getD i [] = r := by rw [List.getD_eq_getElem?_getD, er]; rfl
              refine g_pair nU ⟨rfl, ?_⟩
              refine ⟨_, rfl, _, rfl, rfl, _, rfl, ?_⟩
              by_cases hik : i = k
              · subst hik
                rw [decide_eq_true rfl]
                refine iteF ?_
                exact kn (by simp) _ sU
              · have hik' : ¬ ((i : Int) = (k : Int)) := by omega
                rw [decide_eq_false fun z => hik' (V.int.inj z)]
                refine iteT ?_
                have hrm : r ∈ m2 := List.mem_of_getElem? er
                refine ⟨_, rfl, _, rfl, _, rfl, vt, x2, m2.getD k [], r, l2, B2, rfl, hvt.same (s4.trans sU), hr2, ?_, ?_, ?_, hl0, sq2.bits _ hmk, sq2.bits _ hrm, ?_, fun H5 p s5 np ep => ?_⟩
                · rw [sq2.row _ hmk, sq2.row _ hrm]
                · rw [sq2.row _ hmk]
                  exact Nat.succ_pos _
                · rw [sq2.row _ hmk]
                  omega
                · have : 1 ≤ 2 ^ (j + 1) := Nat.one_le_two_pow
                  have := Nat.mul_le_mul (Nat.le_refl (B2 + 1)) this
                  omega
                · refine kk (by simpa using hik) _ H5 (sU.trans s5) ⟨p, rfl, ?_, ?_⟩
                  · rintro rfl
                    rw [sU _ _ eD] at np
                    cases np
                  · rw [egr]
                    exact ep
            · intro H4 l s4 eD hpl
              rw [filter_ne_range] at hpl
              have hnew : IRows K H4 (.ref D) ((m2.eraseIdx k).map fun r => clr (m2.getD k []) r l2) := by
                refine ⟨D, l, rfl, .inl (.inl (.inl eD)), ?_⟩
                rw [erase_map_range, ← lw]
                refine paired_map (f := fun i => clr (m2.getD k []) (m2.getD i []) l2) (L2.Paired.mapP hpl fun i v h => ?_)
                obtain ⟨p, rfl, _, e⟩ := h
                exact ⟨p, rfl, .inl (.inl (.inl e))⟩
              -- last = top[0]
              have et0 : ∃ at_, vt = .ref at_ ∧ Gm.Seq K H4 at_ ((m2.getD k []).map V.int) := by
                obtain ⟨q1, q2, q3⟩ := hvt.same s4
                exact ⟨q1, q2, q3⟩
              obtain ⟨at_, rfl, hat⟩ := et0
              refine ⟨_, rfl, ?_⟩
              refine rIx_seq hat (v := .int ((m2.getD k []).headD 0)) ?_ ?_
              · cases ez : m2.getD k [] with
                | nil =>
                  have := sq2.row _ hmk
                  rw [ez] at this
                  cases this
                | cons z r' => exact atI_nat (j := 0) rfl
              · refine ⟨_, _, _, _, 2 * B2 + 1, _, _, _, _, rfl, sm.trans (s3.trans s4), hnew, Sq.next sq2 hk l2, by omega, ?_, hh, ?_, ?_, eb⟩
                · have e2 : (2 * B2 + 1 + 1) * 2 ^ j = (B2 + 1) * 2 ^ (j + 1) := by
                    rw [Nat.pow_succ, show 2 * B2 + 1 + 1 = (B2 + 1) * 2 by omega, Nat.mul_assoc, Nat.mul_comm 2 (2 ^ j)]
                  omega
                · have hb := sq2.bits _ hmk
                  have hB60 : B2 ≤ 60000000 := by
                    have : 1 ≤ 2 ^ (j + 1) := Nat.one_le_two_pow
                    have := Nat.mul_le_mul (Nat.le_refl (B2 + 1)) this
                    omega
                  refine Nat.lt_of_lt_of_le ?_ (Nat.pow_le_pow_right (by decide) hB60)
                  cases ez : m2.getD k [] with
                  | nil =>
                    have := sq2.row _ hmk
                    rw [ez] at this
                    cases this
                  | cons z r' =>
                    rw [ez] at hb
                    exact hb z (List.mem_cons_self ..)
                · by_cases hk2 : k % 2 = 1
                  · rw [if_pos hk2]
                    omega
                  · rw [if_neg hk2]
                    exact hs1
theorem cal_determinant_of (T : Top K mg) (hN : base.NoSeer) (hT : P.given.tree = none) : Cal P w K mg base 42 "determinant_of" (sp_determinant_of K) [] := ⟨⟨_, _, _, [], ok_determinant_of T hN hT, T.g_determinant_of, T.F_determinant_of.kp, T.b_determinant_of, .nil⟩⟩

end
end K14
namespace K14
open PySem PySem.Spec PyProof.Rows L2 Gm
open C8 (Cal Met Mak pe_c pe_mt pe_mt0 pe_mk)
section
variable {P : Program} {w : World} {K : PySem.W.Frag} {mg : Str → Option Value} {base : Heap}
/-! ### grids -/
theorem rw_ne : ¬ (("rows" : Str) = "width") := by decide +kernel
def flds (t : V) (w : Nat) : List (Str × V) := putF "width" (.int w) (putF "rows" t [])
theorem flds_rows (t : V) (w : Nat) : (flds t w).lookup ("rows" : Str) = some t := by
  unfold flds
  rw [lookup_putF, if_neg rw_ne, lookup_putF, if_pos rfl]
theorem flds_width (t : V) (w : Nat) : (flds t w).lookup ("width" : Str) = some (.int w) := by
  unfold flds
  rw [lookup_putF, if_pos rfl]
theorem flds_no (t : V) (w : Nat) {m : Str} (h1 : ¬ m = "width") (h2 : ¬ m = "rows") : (flds t w).lookup m = none := by
  unfold flds
  rw [lookup_putF, if_neg h1, lookup_putF, if_neg h2]
  all_goals rfl
/-- a Grid with the rows m, of width w -/
structure IsGrid (K : PySem.W.Frag) (C : Addr) (H : Hp) (v : V) (m : List (List Int)) (w : Nat) : Prop where
  ob : ∃ p dx t, v = .ref p ∧ H p = some (.ins C dx (flds t w)) ∧ TRows K H t m
  wd : ∀ r ∈ m, r.length = w
theorem IsGrid.same {K : PySem.W.Frag} {C : Addr} {H H' : Hp} {v : V} {m : List (List Int)} {w : Nat} (e : Same H H') (h : IsGrid K C H v m w) : IsGrid K C H' v m w :=
  let ⟨p, dx, t, ev, ho, ht⟩ := h.ob
  ⟨⟨p, dx, t, ev, e _ _ ho, ht.same e⟩, h.wd⟩
/-! ### checked_rows -/
theorem seq_ty {K : PySem.W.Frag} {H : Hp} {a : Addr} {xs : List V} (h : Gm.Seq K H a xs) : ∃ n, (n = "list" ∨ n = "tuple") ∧ TyX K H (.ref a) (.type n) := by
  rcases h with h | h
  · refine ⟨"list", .inl rfl, ?_⟩
    rcases h with (h | ⟨o, h⟩) | ⟨o, its, n, h, c, _⟩
    · exact .base (.lst h)
    · exact .base (.frz h)
    · exact .kList h c
  · refine ⟨"tuple", .inr rfl, ?_⟩
    rcases h with (h | ⟨o, h⟩) | ⟨o, its, n, h, c, _⟩
    · exact .base (.tup h)
    · exact .fTuple h
    · exact .kTuple h c
theorem kit_lt {K : PySem.W.Frag} {n : String} (h : n = "list" ∨ n = "tuple") : PySem.W.kitAny K (.type n) [.type "list", .type "tuple"] = some true := by
  rcases h with rfl | rfl
  · exact kitAny_cons (b := true) (kit_ty (by decide +kernel)) (fun e => by cases e) fun _ => rfl
  · exact kitAny_cons (b := false) (kit_ty (by decide +kernel)) (fun _ => kitAny_cons (b := true) (kit_ty (by decide +kernel)) (fun e => by cases e) fun _ => rfl) fun e => by cases e
def sp_checked_rows (K : PySem.W.Frag) : Sp := fun vs H Q _ => ∃ v m, vs = [v] ∧ IRows K H v m ∧ m.length ≤ 1000 ∧ (∀ r ∈ m, r.length ≤ 1000) ∧ ∀ v' H', Same H H' → TRows K H' v' m → Q v' H'
theorem ok_checked_rows (T : Top K mg) (hN : base.NoSeer) (hT : P.given.tree = none) : FnOk P w K mg base CX0 2 T.a_checked_rows T.d_checked_rows ["rows"] (sp_checked_rows K) := by
  refine T.F_checked_rows.ok sc_checked_rows (fun vs H Q E h => ?_) (fun cdv A outer s H vs Q E hr h => ?_)
  · obtain ⟨v, m, rfl, _⟩ := h
    rfl
  · obtain ⟨v, m, rfl, hm, hl, hw, q⟩ := h
    obtain ⟨a, ws, rfl, hs, hp⟩ := id hm
    have lw := Paired.length hp
    refine ⟨_, (pss_cons (ps_if (pt_not (pt_val (pe_callB (isiTK K rfl) (by rfl) T.z_isinstance (by decide +kernel) (pa_cons (pv 0) (pa_cons (pe_tup (pa_cons (pe_bltn (v := .ty "list") (by rfl) T.z_list (by decide +kernel) rfl) (pa_cons (pe_bltn (v := .ty "tuple") (by rfl) T.z_tuple (by decide +kernel) rfl) pa_nil))) pa_nil)))))
      (pss_one ps_never)
      pss_nil)
      (pss_cons (ps_for PassesOwn.never rfl (piS K rfl (pv 0)) (pg_name (i := 1) sc_checked_rows.nd rfl (by first | exact .inl rfl | exact .inr rfl))
      (pss_cons (ps_if (pt_not (pt_val (pe_callB (isiTK K rfl) (by rfl) T.z_isinstance (by decide +kernel) (pa_cons (pv 1) (pa_cons (pe_tup (pa_cons (pe_bltn (v := .ty "list") (by rfl) T.z_list (by decide +kernel) rfl) (pa_cons (pe_bltn (v := .ty "tuple") (by rfl) T.z_tuple (by decide +kernel) rfl) pa_nil))) pa_nil)))))
      (pss_one ps_never)
      pss_nil)
      (pss_one (ps_if (pt_not (pt_val (pe_callB (allK K rfl rfl) (by rfl) T.z_all (by decide +kernel) (pa_cons (pe_lc (own := [("item", 2)]) (g := (gName 2)) (by rfl) sc_checked_rows.nd (piS K rfl (pv 1)) ((by show BlkOk ["rows", "row", "item"] (defScope s_checked_rows) _ _; exact blkOk_by (by decide +kernel))) (fun _ _ _ _ _ => (pg_name (i := 2) sc_checked_rows.nd rfl (by first | exact .inl rfl | exact .inr rfl))) (fun _ _ _ _ _ => pts_nil) (fun _ _ _ _ _ => (pe_c (cal_is_integer T hN hT) hr (by decide) (by rfl) (pa_cons (pv 2) pa_nil)))) pa_nil))))
      (pss_one ps_never)
      pss_nil))))
      (pss_one (ps_ret (pe_callTy (tupK K rfl) (by rfl) T.z_tuple (by decide +kernel) (pa_cons (pe_lc (own := [("row", 1)]) (g := (gName 1)) (by rfl) sc_checked_rows.nd (piS K rfl (pv 0)) ((by show BlkOk ["rows", "row", "item"] (defScope s_checked_rows) _ _; exact blkOk_by (by decide +kernel))) (fun _ _ _ _ _ => (pg_name (i := 1) sc_checked_rows.nd rfl (by first | exact .inl rfl | exact .inr rfl))) (fun _ _ _ _ _ => pts_nil) (fun _ _ _ _ _ => (pe_callTy (tupK K rfl) (by rfl) T.z_tuple (by decide +kernel) (pa_cons (pv 1) pa_nil)))) pa_nil)))))), ?_⟩
    -- if not isinstance(rows, (list, tuple))
    refine ⟨_, rfl, by show 2 ≤ sizeLine; decide, fun p np => ?_⟩
    have s1 : Same H (upd H p (.tup [.ty "list", .ty "tuple"])) := same_upd np
    obtain ⟨n, hn, ty⟩ := seq_ty (hs.same s1)
    refine ⟨.ref a, p, [.ty "list", .ty "tuple"], _, [.type "list", .type "tuple"], true, rfl, upd_same, .cons (.ty _) (.cons (.ty _) .nil), ty, kit_lt hn, true, rfl, ?_⟩
    refine iteF ?_
    -- for row in rows
    refine ⟨_, rfl, a, ws, rfl, hs.same s1, fun J G W hG => ?_⟩
    generalize hH1 : upd H p (.tup [.ty "list", .ty "tuple"]) = H1 at s1 hG
    refine for_it W (fun i σ H2 => ∃ y1 y2, σ = [some (.ref a), y1, y2] ∧ Same H1 H2) ⟨none, none, rfl, Same.refl _⟩ (fun i σ H2 _ ⟨_, _, _, s2⟩ => hG _ fun b _ o => s2 b o) ?_ ?_
    · rintro i x σ H2 H2' hi ⟨y1, y2, rfl, s2⟩ ⟨rfl, ex⟩
      obtain ⟨r, er, b, rfl, hb⟩ := Paired.getR hp ex
      have hrm : r ∈ m := List.mem_of_getElem? er
      -- if not isinstance(row, (list, tuple))
      refine ⟨_, rfl, by show 2 ≤ sizeLine; decide, fun p2 np2 => ?_⟩
      have s3 : Same H2' (upd H2' p2 (.tup [.ty "list", .ty "tuple"])) := same_upd np2
      have hb3 := hb.same (s1.trans (s2.trans s3))
      obtain ⟨n2, hn2, ty2⟩ := seq_ty hb3
      refine ⟨.ref b, p2, [.ty "list", .ty "tuple"], _, [.type "list", .type "tuple"], true, rfl, upd_same, .cons (.ty _) (.cons (.ty _) .nil), ty2, kit_lt hn2, true, rfl, ?_⟩
      refine iteF ?_
      -- if not all([is_integer(item) for item in row])
      refine ⟨_, rfl, b, _, rfl, hb3, fun J2 G2 W2 hG2 D hD => ?_⟩
      refine lc_all W2 hD (by rw [List.length_map]; exact hw _ hrm) (fun H4 s4 => hG2 H4 fun b _ o => s4 b o) (fun _ v _ => v = .bl true) (fun _ _ _ _ _ _ _ h => h) ?_ gm_name ?_
      · rintro j y H4 H4' acc Ko hj s4 eD ⟨rfl, ey⟩ k
        obtain ⟨z, ez, rfl⟩ := ints_get ey
        refine ⟨rfl, ?_⟩
        exact ⟨_, rfl, z, rfl, k _ _ (Same.refl _) rfl⟩
      · intro H4 l s4 eD hl2
        refine ⟨D, List.replicate l.length true, rfl, .inl (.inl (by rw [← paired_true hl2]; exact eD)), true, by rw [all_true], ?_⟩
        refine iteF ?_
        exact ⟨_, _, rfl, s2.trans (s3.trans s4)⟩
    · rintro σ H2 ⟨y1, y2, rfl, s2⟩
      have sm := s1.trans s2
      -- return tuple([tuple(row) for row in rows])
      refine ⟨_, rfl, a, ws, rfl, hs.same sm, fun J2 G2 W2 hG2 D hD => ?_⟩
      refine lc_all W2 hD (by omega) (fun H4 s4 => hG2 H4 fun b _ o => s4 b o) (fun i v H4 => ∃ r, m[i]? = some r ∧ TRow K H4 v r) (fun i v H4 H5 acc e o ⟨r, er, h⟩ => ⟨r, er, TRow.off e o h⟩) ?_ gm_name ?_
      · rintro i x H4 H4' acc Ko hi s4 eD ⟨rfl, ex⟩ k
        obtain ⟨r, er, b, rfl, hb⟩ := Paired.getR hp ex
        refine ⟨rfl, ?_⟩
        refine ⟨_, rfl, b, r.map V.int, rfl, ?_⟩
        rcases hb.same (sm.trans s4) with hb' | hb'
        · refine .inl ⟨hb', fun t nt => ?_⟩
          exact k _ _ (same_upd nt) ⟨r, er, t, rfl, .inl (.inl upd_same)⟩
        · refine .inr ⟨hb', ?_⟩
          exact k _ _ (Same.refl _) ⟨r, er, b, rfl, hb'⟩
      · intro H4 l s4 eD hpl
        refine ⟨D, l, rfl, .inl ⟨.inl (.inl eD), fun t nt => ?_⟩⟩
        refine q _ _ (sm.trans (s4.trans (same_upd nt))) ⟨t, l, rfl, .inl (.inl upd_same), ?_⟩
        exact L2.Paired.mapP (paired_at (m := m) (by omega) hpl) fun _ _ => TRow.same (same_upd nt)
theorem cal_checked_rows (T : Top K mg) (hN : base.NoSeer) (hT : P.given.tree = none) : Cal P w K mg base 2 "checked_rows" (sp_checked_rows K) [] := ⟨⟨_, _, _, [], ok_checked_rows T hN hT, T.g_checked_rows, T.F_checked_rows.kp, T.b_checked_rows, .nil⟩⟩
/-! ### checked_width -/
def sp_checked_width (K : PySem.W.Frag) : Sp := fun vs H Q _ => ∃ (v : V) (m : List (List Int)) (w : Nat), vs = [v, .int w] ∧ TRows K H v m ∧ m.length ≤ 1000 ∧ (∀ r ∈ m, r.length = w) ∧ ∀ H', Same H H' → Q (.int w) H'
theorem ok_checked_width (T : Top K mg) (hN : base.NoSeer) (hT : P.given.tree = none) : FnOk P w K mg base CX0 2 T.a_checked_width T.d_checked_width ["rows", "width"] (sp_checked_width K) := by
  refine T.F_checked_width.ok sc_checked_width (fun vs H Q E h => ?_) (fun cdv A outer s H vs Q E hr h => ?_)
  · obtain ⟨v, m, w, rfl, _⟩ := h
    rfl
  · obtain ⟨v, m, w, rfl, hm, hl, hw, q⟩ := h
    obtain ⟨a, ws, rfl, hs, hp⟩ := id hm
    have lw := Paired.length hp
    refine ⟨_, (pss_cons (ps_if (pt_cmpR op_isN (pv 1) pe_non (nomark _))
      (pss_one (ps_set (i := 1) sc_checked_width.nd rfl (by first | exact .inl rfl | exact .inr rfl) (pe_ifExp (pt_cmpR op_gt (pe_callB (lenS K rfl) (by rfl) T.z_len (by decide +kernel) (pa_cons (pv 0) pa_nil)) pe_int (nomark _)) (pe_callB (lenS K rfl) (by rfl) T.z_len (by decide +kernel) (pa_cons (pe_ix (ixT K rfl) (pv 0) pe_int (fun _ _ => rfl)) pa_nil)) pe_int)))
      pss_nil)
      (pss_cons (ps_if (PW.pt (pw_or (pt_not (pt_val (pe_c (cal_is_integer T hN hT) hr (by decide) (by rfl) (pa_cons (pv 1) pa_nil)))) (pw_or1 (pt_cmpR op_lt (pv 1) pe_int (nomark _)))))
      (pss_one ps_never)
      pss_nil)
      (pss_cons (ps_if (pt_not (pt_val (pe_callB (allK K rfl rfl) (by rfl) T.z_all (by decide +kernel) (pa_cons (pe_lc (own := [("row", 2)]) (g := (gName 2)) (by rfl) sc_checked_width.nd (piS K rfl (pv 0)) ((by show BlkOk ["rows", "width", "row"] (defScope s_checked_width) _ _; exact blkOk_by (by decide +kernel))) (fun _ _ _ _ _ => (pg_name (i := 2) sc_checked_width.nd rfl (by first | exact .inl rfl | exact .inr rfl))) (fun _ _ _ _ _ => pts_nil) (fun _ _ _ _ _ => (pe_cmpR op_eq (pe_callB (lenS K rfl) (by rfl) T.z_len (by decide +kernel) (pa_cons (pv 2) pa_nil)) (pv 1) (nomark _)))) pa_nil))))
      (pss_one ps_never)
      pss_nil)
      (pss_one (ps_ret (pv 1)))))), ?_⟩
    -- if width is None
    refine ⟨_, rfl, rfl, _, rfl, ?_⟩
    rw [show decide (V.int (w : Int) = V.non) = false from decide_eq_false fun z => by cases z]
    refine iteF ?_
    -- if not is_integer(width) or width < 0
    refine ⟨_, rfl, _, rfl, true, rfl, iteF ⟨_, rfl, _, _, rfl, rfl, _, rfl, ?_⟩⟩
    rw [decide_eq_false (by omega)]
    refine iteF ?_
    -- if not all([len(row) == width for row in rows])
    refine ⟨_, rfl, a, ws, rfl, .inr hs, fun J2 G2 W2 hG2 D hD => ?_⟩
    refine lc_all W2 hD (by omega) (fun H4 s4 => hG2 H4 fun b _ o => s4 b o) (fun _ v _ => v = .bl true) (fun _ _ _ _ _ _ _ h => h) ?_ gm_name ?_
    · rintro i x H4 H4' acc Ko hi s4 eD ⟨rfl, ex⟩ k
      obtain ⟨r, er, b, rfl, hb⟩ := Paired.getR hp ex
      refine ⟨rfl, ?_⟩
      refine ⟨_, rfl, b, _, rfl, .inr (Same.seqT s4 hb), _, rfl, rfl, ?_⟩
      rw [List.length_map, hw r (List.mem_of_getElem? er), decide_eq_true rfl]
      exact k _ _ (Same.refl _) rfl
    · intro H4 l s4 eD hl2
      refine ⟨D, List.replicate l.length true, rfl, .inl (.inl (by rw [← paired_true hl2]; exact eD)), true, by rw [all_true], ?_⟩
      refine iteF ?_
      exact ⟨_, rfl, q _ s4⟩
theorem cal_checked_width (T : Top K mg) (hN : base.NoSeer) (hT : P.given.tree = none) : Cal P w K mg base 2 "checked_width" (sp_checked_width K) [] := ⟨⟨_, _, _, [], ok_checked_width T hN hT, T.g_checked_width, T.F_checked_width.kp, T.b_checked_width, .nil⟩⟩
/-! ### Grid.__init__ -/
def sp_Grid_init (K : PySem.W.Frag) (C : Addr) : Sp := fun vs H Q _ => ∃ (p dx : Addr) (v : V) (m : List (List Int)) (w : Nat), vs = [.ref p, v, .int w] ∧ H p = some (.ins C dx []) ∧ IRows K H v m ∧ m.length ≤ 1000 ∧ w ≤ 1000 ∧ (∀ r ∈ m, r.length = w) ∧
  ∀ t H', Off p H H' → H' p = some (.ins C dx (flds t w)) → TRows K H' t m → Q .non H'
theorem trows_off {K : PySem.W.Frag} {H H' : Hp} {p C dx : Addr} {fs : List (Str × V)} {t : V} {m : List (List Int)} (e : H p = some (.ins C dx fs)) (o : Off p H H') (h : TRows K H t m) : TRows K H' t m := by
  have f : ∀ {a : Addr} {xs : List V}, SqT K H a xs → SqT K H' a xs := fun {a xs} h => by
    rcases h with (h | ⟨u, h⟩) | h
    · exact .inl (.inl (o _ _ (ne_of h e (by intro z; cases z)) h))
    · exact .inl (.inr ⟨u, o _ _ (ne_of h e (by intro z; cases z)) h⟩)
    · exact .inr h
  obtain ⟨a, vs, rfl, hs, hp⟩ := h
  exact ⟨a, vs, rfl, f hs, L2.Paired.mapP hp fun v r ⟨b, e, h⟩ => ⟨b, e, f h⟩⟩
theorem ok_Grid_init (T : Top K mg) (hN : base.NoSeer) (hT : P.given.tree = none) : FnOk P w K mg base CX0 3 T.a_Grid_init T.d_Grid_init ["self", "rows", "width"] (sp_Grid_init K T.C_Grid) := by
  refine T.F_Grid_init.ok sc_Grid_init (fun vs H Q E h => ?_) (fun cdv A outer s H vs Q E hr h => ?_)
  · obtain ⟨p, dx, v, m, w, rfl, _⟩ := h
    rfl
  · obtain ⟨p, dx, v, m, w, rfl, hp, hm, hl, hw, hrw, q⟩ := h
    refine ⟨_, PSs.nox (pss_cons (ps_fld (pv 0) (pe_c (cal_checked_rows T hN hT) hr (by decide) (by rfl) (pa_cons (pv 1) pa_nil)) rfl)
      (pss_one (ps_fld (pv 0) (pe_c (cal_checked_width T hN hT) hr (by decide) (by rfl) (pa_cons (fldK K rfl (pv 0) rfl) (pa_cons (pv 2) pa_nil))) rfl))), ?_⟩
    refine ⟨_, rfl, v, m, rfl, hm, hl, fun r hr => by rw [hrw r hr]; exact hw, fun t H1 s1 ht => ?_⟩
    have hp1 := s1 _ _ hp
    refine ⟨_, rfl, p, T.C_Grid, dx, [], rfl, hp1, T.cl_Grid, T.n_rows, by show 0 < 1000; decide, ?_⟩
    refine ⟨_, rfl, p, T.C_Grid, dx, _, t, rfl, upd_same, T.cl_Grid, T.n_rows, ?_, ?_⟩
    · rw [lookup_putF, if_pos rfl]
    have ht2 : TRows K (upd H1 p (.ins T.C_Grid dx (putF "rows" t []))) t m := trows_off hp1 Off.upd ht
    refine ⟨_, rfl, t, m, w, rfl, ht2, hl, hrw, fun H2 s2 => ?_⟩
    have hp2 := s2 _ _ upd_same
    refine ⟨_, rfl, p, T.C_Grid, dx, _, rfl, hp2, T.cl_Grid, T.n_width, by show 1 < 1000; decide, ?_⟩
    refine q t _ (fun b o n e => ?_) upd_same (trows_off hp2 Off.upd (ht2.same s2))
    rw [upd_ne n]
    exact s2 _ _ (Off.upd _ _ n (s1 _ _ e))
theorem mak_Grid (T : Top K mg) (hN : base.NoSeer) (hT : P.given.tree = none) : Mak P w K mg base 3 "Grid" T.C_Grid (sp_Grid_init K T.C_Grid) [] := ⟨⟨_, _, _, [], T.mk_Grid, ok_Grid_init T hN hT, T.g_Grid, T.b_Grid_init, .nil⟩⟩
/-- what a call Grid(rows, width) asks and gives -/
theorem make_grid {K : PySem.W.Frag} {C : Addr} {H1 : Hp} {v : V} {m : List (List Int)} {w : Nat} {Q : VK} {E : XK} (hm : IRows K H1 v m) (hl : m.length ≤ 1000) (hw : w ≤ 1000) (hrw : ∀ r ∈ m, r.length = w) (q : ∀ g H', Same H1 H' → IsGrid K C H' g m w → Q g H') :
    ∀ x dx, H1 x = none → H1 dx = none → dx ≠ x → sp_Grid_init K C (.ref x :: ([v, .int w] ++ [])) (upd (upd H1 dx (.own x)) x (.ins C dx [])) (fun v H2 => v = .non ∧ Q (.ref x) H2) E := fun x dx nx nd ne => by
  have s0 : Same H1 (upd (upd H1 dx (.own x)) x (.ins C dx [])) := fun b o e => by
    rw [upd_ne (ne_of_none e nx), upd_ne (ne_of_none e nd)]
    exact e
  refine ⟨x, dx, v, m, w, rfl, upd_same, hm.same s0, hl, hw, hrw, fun t H' o ho ht => ⟨rfl, ?_⟩⟩
  exact q _ _ (fun b u e => o _ _ (ne_of_none e nx) (s0 _ _ e)) ⟨⟨x, dx, t, rfl, ho, ht⟩, hrw⟩

end
end K14
namespace K14
open PySem PySem.Spec PyProof.Rows L2 Gm
open C8 (Cal Met Mak pe_c pe_mt pe_mt0 pe_mk)
section
variable {P : Program} {w : World} {K : PySem.W.Frag} {mg : Str → Option Value} {base : Heap}
/-! ### dot -/
def dotI (xs ys : List Int) : Int := (List.zipWith (· * ·) xs ys).sum
def sp_dot (K : PySem.W.Frag) : Sp := fun vs H Q _ => ∃ v1 v2 xs ys B1 B2, vs = [v1, v2] ∧ TRow K H v1 xs ∧ TRow K H v2 ys ∧ xs.length = ys.length ∧ xs.length ≤ 1000 ∧ Bits B1 xs ∧ Bits B2 ys ∧ B1 + B2 ≤ 134217728 ∧ ∀ H', Same H H' → Q (.int (dotI xs ys)) H'
theorem ok_dot (T : Top K mg) (hN : base.NoSeer) (hT : P.given.tree = none) : FnOk P w K mg base CX0 1 T.a_dot T.d_dot ["a", "b"] (sp_dot K) := by
  refine T.F_dot.ok sc_dot (fun vs H Q E h => ?_) (fun cdv A outer s H vs Q E hr h => ?_)
  · obtain ⟨v1, v2, xs, ys, B1, B2, rfl, _⟩ := h
    rfl
  · obtain ⟨v1, v2, xs, ys, B1, B2, rfl, ⟨a, rfl, hx⟩, ⟨b, rfl, hy⟩, hl, hl2, bx, by', hB, q⟩ := h
    refine ⟨_, (pss_one (ps_ret (pe_callB (sumK K rfl rfl) (by rfl) T.z_sum (by decide +kernel) (pa_cons (pe_lc (own := [("x", 2), ("y", 3)]) (g := (gTup K 2 (gCons (gName 2) (gCons (gName 3) gNil)))) (by rfl) sc_dot.nd (RZ.pi_zipA (by rfl) T.z_zip (pa_cons (pv 0) (pa_cons (pv 1) pa_nil))) ((by show BlkOk ["a", "b", "x", "y"] (defScope s_dot) _ _; exact blkOk_by (by decide +kernel))) (fun _ _ _ _ _ => (pg_tup rfl (pgs_cons (pg_name (i := 2) sc_dot.nd rfl (by first | exact .inl rfl | exact .inr rfl)) (pgs_cons (pg_name (i := 3) sc_dot.nd rfl (by first | exact .inl rfl | exact .inr rfl)) pgs_nil)))) (fun _ _ _ _ _ => pts_nil) (fun _ _ _ _ _ => (pe_op op_mulX (pv 2) (pv 3)))) pa_nil)))), ?_⟩
    refine ⟨_, rfl, _, rfl, a, b, _, _, rfl, .inr ⟨hx, hy, fun D hD => ?_⟩⟩
    have W : Walk (RZ.ItzT K a b) xs.length (fun H => SqT K H a (xs.map V.int) ∧ SqT K H b (ys.map V.int)) (YPair (fun i => (xs.map V.int)[i]?) (fun i => (ys.map V.int)[i]?)) := walk_zipT (by rw [List.length_map, List.length_map, hl, Nat.min_self])
    refine lc_all W hD hl2 (fun H4 s4 => ⟨Same.seqT s4 hx, Same.seqT s4 hy⟩) (fun i v _ => ∃ z, (List.zipWith (· * ·) xs ys)[i]? = some z ∧ v = .int z) (fun _ _ _ _ _ _ _ h => h) ?_ gm_pair ?_
    · rintro i x H4 H4' acc Ko hi s4 eD ⟨U, x1, x2, rfl, nU, rfl, e1, e2⟩ k
      obtain ⟨z1, ez1, rfl⟩ := ints_get e1
      obtain ⟨z2, ez2, rfl⟩ := ints_get e2
      refine g_pair nU ⟨rfl, ?_⟩
      refine ⟨_, rfl, _, rfl, z1, z2, rfl, rfl, mulx_ok (bx.at ez1) (by'.at ez2) hB, ?_⟩
      refine k _ _ (same_upd nU) ⟨z1 * z2, ?_, rfl⟩
      rw [List.getElem?_zipWith, ez1, ez2]
    · intro H4 l s4 eD hpl
      have el := ints_list (by rw [List.length_zipWith, hl, Nat.min_self]) hpl
      refine ⟨D, List.zipWith (· * ·) xs ys, rfl, .inl (.inl (by rw [← el]; exact eD)), ?_⟩
      exact q _ s4
theorem cal_dot (T : Top K mg) (hN : base.NoSeer) (hT : P.given.tree = none) : Cal P w K mg base 1 "dot" (sp_dot K) [] := ⟨⟨_, _, _, [], ok_dot T hN hT, T.g_dot, T.F_dot.kp, T.b_dot, .nil⟩⟩
/-! ### the simple methods -/
def sp_Grid_is_square (K : PySem.W.Frag) (C : Addr) : Sp := fun vs H Q _ => ∃ v m w, vs = [v] ∧ IsGrid K C H v m w ∧ Q (.bl (decide (m.length = w))) H
theorem ok_Grid_is_square (T : Top K mg) (hN : base.NoSeer) (hT : P.given.tree = none) : FnOk P w K mg base CX0 1 T.a_Grid_is_square T.d_Grid_is_square ["self"] (sp_Grid_is_square K T.C_Grid) := by
  refine T.F_Grid_is_square.ok sc_Grid_is_square (fun vs H Q E h => ?_) (fun cdv A outer s H vs Q E hr h => ?_)
  · obtain ⟨v, m, w, rfl, _⟩ := h
    rfl
  · obtain ⟨v, m, w, rfl, ⟨⟨p, dx, t, rfl, ho, a, ws, rfl, hs, hp⟩, hw⟩, q⟩ := h
    refine ⟨_, (pss_one (ps_ret (pe_cmpR op_eq (pe_callB (lenS K rfl) (by rfl) T.z_len (by decide +kernel) (pa_cons (fldK K rfl (pv 0) rfl) pa_nil)) (fldK K rfl (pv 0) rfl) (nomark _)))), ?_⟩
    refine ⟨_, rfl, p, T.C_Grid, dx, _, _, rfl, ho, T.cl_Grid, T.n_rows, flds_rows _ _, a, ws, rfl, .inr hs, _, rfl, p, T.C_Grid, dx, _, _, rfl, ho, T.cl_Grid, T.n_width, flds_width _ _, rfl, ?_⟩
    have e : decide (V.int (ws.length : Int) = V.int (w : Int)) = decide (m.length = w) := by
      rw [Paired.length hp]
      by_cases h : m.length = w
      · rw [decide_eq_true h, decide_eq_true (by rw [h])]
      · rw [decide_eq_false h, decide_eq_false (fun z => h (by have := V.int.inj z; omega))]
    show Q (.bl (decide (V.int (ws.length : Int) = V.int (w : Int)))) H
    rw [e]
    exact q
theorem met_Grid_is_square (T : Top K mg) (hN : base.NoSeer) (hT : P.given.tree = none) : Met P w K mg base 1 T.C_Grid "is_square" (sp_Grid_is_square K T.C_Grid) [] := ⟨⟨_, _, _, [], T.cl_Grid, T.m_Grid_is_square, ok_Grid_is_square T hN hT, T.b_Grid_is_square, .nil⟩⟩
theorem m_is_square (t : V) (w : Nat) : (flds t w).lookup ("is_square" : Str) = none := flds_no t w (by decide +kernel) (by decide +kernel)
theorem m_transposed (t : V) (w : Nat) : (flds t w).lookup ("transposed" : Str) = none := flds_no t w (by decide +kernel) (by decide +kernel)
theorem m_determinant (t : V) (w : Nat) : (flds t w).lookup ("determinant" : Str) = none := flds_no t w (by decide +kernel) (by decide +kernel)
theorem m_adjugate (t : V) (w : Nat) : (flds t w).lookup ("adjugate" : Str) = none := flds_no t w (by decide +kernel) (by decide +kernel)
def sp_check_square (K : PySem.W.Frag) (C : Addr) : Sp := fun vs H Q _ => ∃ v m w, vs = [v] ∧ IsGrid K C H v m w ∧ m.length = w ∧ Q .non H
theorem ok_check_square (T : Top K mg) (hN : base.NoSeer) (hT : P.given.tree = none) : FnOk P w K mg base CX0 2 T.a_check_square T.d_check_square ["a"] (sp_check_square K T.C_Grid) := by
  refine T.F_check_square.ok sc_check_square (fun vs H Q E h => ?_) (fun cdv A outer s H vs Q E hr h => ?_)
  · obtain ⟨v, m, w, rfl, _⟩ := h
    rfl
  · obtain ⟨v, m, w, rfl, G, hw, q⟩ := h
    obtain ⟨⟨p, dx, t, rfl, ho, ht⟩, hrw⟩ := id G
    refine ⟨_, (pss_one (ps_if (pt_not (pt_val (pe_mt0 (met_Grid_is_square T hN hT) hr (by decide) (pv 0))))
      (pss_one ps_never)
      pss_nil)), ?_⟩
    refine ⟨_, rfl, p, dx, _, rfl, ho, m_is_square _ _, .ref p, m, w, rfl, G, _, rfl, ?_⟩
    rw [decide_eq_true hw]
    exact iteF q
theorem cal_check_square (T : Top K mg) (hN : base.NoSeer) (hT : P.given.tree = none) : Cal P w K mg base 2 "check_square" (sp_check_square K T.C_Grid) [] := ⟨⟨_, _, _, [], ok_check_square T hN hT, T.g_check_square, T.F_check_square.kp, T.b_check_square, .nil⟩⟩
def sp_Grid_determinant (K : PySem.W.Frag) (C : Addr) : Sp := fun vs H Q _ => ∃ v m n B, vs = [v] ∧ IsGrid K C H v m n ∧ Sq n B m ∧ n ≤ 5 ∧ B ≤ 1200000 ∧ ∀ H', Same H H' → Q (.int (bare n 1 1 m)) H'
theorem ok_Grid_determinant (T : Top K mg) (hN : base.NoSeer) (hT : P.given.tree = none) : FnOk P w K mg base CX0 43 T.a_Grid_determinant T.d_Grid_determinant ["self"] (sp_Grid_determinant K T.C_Grid) := by
  refine T.F_Grid_determinant.ok sc_Grid_determinant (fun vs H Q E h => ?_) (fun cdv A outer s H vs Q E hr h => ?_)
  · obtain ⟨v, m, n, B, rfl, _⟩ := h
    rfl
  · obtain ⟨v, m, n, B, rfl, G, sq, hn, hB, q⟩ := h
    obtain ⟨⟨p, dx, t, rfl, ho, ht⟩, hrw⟩ := id G
    refine ⟨_, (pss_cons (ps_expr (pe_c (cal_check_square T hN hT) hr (by decide) (by rfl) (pa_cons (pv 0) pa_nil)))
      (pss_one (ps_ret (pe_c (cal_determinant_of T hN hT) hr (by decide) (by rfl) (pa_cons (fldK K rfl (pv 0) rfl) pa_nil))))), ?_⟩
    refine ⟨_, rfl, .ref p, m, n, rfl, G, sq.len, ?_⟩
    exact ⟨_, rfl, p, T.C_Grid, dx, _, t, rfl, ho, T.cl_Grid, T.n_rows, flds_rows _ _, t, m, n, B, rfl, ht.rows, sq, hn, hB, q⟩
theorem met_Grid_determinant (T : Top K mg) (hN : base.NoSeer) (hT : P.given.tree = none) : Met P w K mg base 43 T.C_Grid "determinant" (sp_Grid_determinant K T.C_Grid) [] := ⟨⟨_, _, _, [], T.cl_Grid, T.m_Grid_determinant, ok_Grid_determinant T hN hT, T.b_Grid_determinant, .nil⟩⟩

end
end K14
namespace K14
open PySem PySem.Spec PyProof.Rows L2 Gm
open C8 (Cal Met Mak pe_c pe_mt pe_mt0 pe_mk)
section
variable {P : Program} {w : World} {K : PySem.W.Frag} {mg : Str → Option Value} {base : Heap}
/-! ### transposed -/
def transp (m : List (List Int)) (w : Nat) : List (List Int) := (List.range w).map fun k => m.map fun r => r.getD k 0
theorem transp_len (m : List (List Int)) (w : Nat) : (transp m w).length = w := by
  unfold transp
  rw [List.length_map, List.length_range]
theorem transp_row {m : List (List Int)} {w : Nat} : ∀ r ∈ transp m w, r.length = m.length := fun r hr => by
  obtain ⟨k, _, rfl⟩ := List.mem_map.mp hr
  rw [List.length_map]
theorem transp_get {m : List (List Int)} {w k : Nat} (h : k < w) : (transp m w).getD k [] = m.map fun r => r.getD k 0 := by
  unfold transp
  rw [List.getD_eq_getElem?_getD, List.getElem?_map, List.getElem?_range h]
  rfl
def sp_Grid_transposed (K : PySem.W.Frag) (C : Addr) : Sp := fun vs H Q _ => ∃ v m w, vs = [v] ∧ IsGrid K C H v m w ∧ m.length ≤ 1000 ∧ w ≤ 1000 ∧ ∀ g H', Same H H' → IsGrid K C H' g (transp m w) m.length → Q g H'
theorem ok_Grid_transposed (T : Top K mg) (hN : base.NoSeer) (hT : P.given.tree = none) : FnOk P w K mg base CX0 5 T.a_Grid_transposed T.d_Grid_transposed ["self"] (sp_Grid_transposed K T.C_Grid) := by
  refine T.F_Grid_transposed.ok sc_Grid_transposed (fun vs H Q E h => ?_) (fun cdv A outer s H vs Q E hr h => ?_)
  · obtain ⟨v, m, w, rfl, _⟩ := h
    rfl
  · obtain ⟨v, m, n, rfl, G, hl, hw, q⟩ := h
    obtain ⟨⟨p, dx, t, rfl, ho, a, ws, rfl, hs, hp⟩, hrw⟩ := id G
    have lw := Paired.length hp
    refine ⟨_, (pss_cons (ps_set (i := 1) sc_Grid_transposed.nd rfl (by first | exact .inl rfl | exact .inr rfl) (pe_callTy (cr_range1) (by rfl) T.z_range (by decide +kernel) (pa_cons (fldK K rfl (pv 0) rfl) pa_nil)))
      (pss_one (ps_ret (pe_mk (mak_Grid T hN hT) hr (by decide) (by rfl) (pa_cons (pe_lc (own := [("k", 2)]) (g := (gName 2)) (by rfl) sc_Grid_transposed.nd (pi_rngv (pv 1)) ((by show BlkOk ["self", "places", "k", "row"] (defScope s_Grid_transposed) _ _; exact blkOk_by (by decide +kernel))) (fun _ _ _ _ _ => (pg_name (i := 2) sc_Grid_transposed.nd rfl (by first | exact .inl rfl | exact .inr rfl))) (fun _ _ _ _ _ => pts_nil) (fun _ _ _ _ _ => (pe_lc (own := [("row", 3)]) (g := (gName 3)) (by rfl) sc_Grid_transposed.nd (piS K rfl (fldK K rfl (pv 0) rfl)) ((by show BlkOk ["self", "places", "k", "row"] (relS _ (defScope s_Grid_transposed)) _ _; exact blkOk_by (by decide +kernel))) (fun _ _ _ _ _ => (pg_name (i := 3) sc_Grid_transposed.nd rfl (by first | exact .inl rfl | exact .inr rfl))) (fun _ _ _ _ _ => pts_nil) (fun _ _ _ _ _ => (pe_ix (ixT K rfl) (pv 3) (pv 2) (fun _ _ => rfl)))))) (pa_cons (pe_callB (lenS K rfl) (by rfl) T.z_len (by decide +kernel) (pa_cons (fldK K rfl (pv 0) rfl) pa_nil)) pa_nil)))))), ?_⟩
    -- places = range(self.width)
    refine ⟨_, rfl, p, T.C_Grid, dx, _, _, rfl, ho, T.cl_Grid, T.n_width, flds_width _ _, _, rfl, fun pr npr => ?_⟩
    have s1 : Same H (upd H pr (.rng 0 (n : Int))) := same_upd npr
    -- the outer comprehension
    refine ⟨_, rfl, pr, _, _, rfl, upd_same, ⟨by decide, by decide, by omega, by omega⟩, fun D hD => ?_⟩
    refine lc_all walk_range hD (by omega) (fun _ _ => trivial) (fun i v H4 => ∃ p, v = V.ref p ∧ p ≠ D ∧ H4 p = some (.lst (((transp m n).getD i []).map V.int))) lists_mono ?_ gm_name ?_
    · rintro i x H4 H4' acc Ko hi s4 eD ⟨rfl, rfl⟩ k
      have hi' : i < n := by omega
      refine ⟨rfl, ?_⟩
      -- the inner one
      have sm := s1.trans s4
      have ho4 := sm _ _ ho
      have hs4 := Same.seqT sm hs
      refine ⟨_, rfl, p, T.C_Grid, dx, _, _, rfl, ho4, T.cl_Grid, T.n_rows, flds_rows _ _, a, ws, rfl, .inr hs4, fun J2 G2 W2 hG2 D2 hD2 => ?_⟩
      refine lc_all W2 hD2 (by omega) (fun H5 s5 => hG2 H5 fun b _ o => s5 b o) (fun j v _ => ∃ z, ((transp m n).getD i [])[j]? = some z ∧ v = .int z) (fun _ _ _ _ _ _ _ h => h) ?_ gm_name ?_
      · rintro j y H5 H5' acc2 Ko2 hj s5 eD2 ⟨rfl, ey⟩ k2
        obtain ⟨r, er, b, rfl, hb⟩ := Paired.getR hp ey
        have hrl := hrw r (List.mem_of_getElem? er)
        refine ⟨rfl, ?_⟩
        refine ⟨_, rfl, _, rfl, b, _, _, _, rfl, rfl, Same.seqT (sm.trans s5) hb, at_of (j := i) (by omega) (ints_at (List.getElem?_eq_getElem (by omega))), ?_⟩
        refine k2 _ _ (Same.refl _) ⟨_, ?_, rfl⟩
        rw [transp_get hi', List.getElem?_map, er]
        show some (r.getD i 0) = some r[i]
        rw [List.getD_eq_getElem?_getD, List.getElem?_eq_getElem (by omega)]
        rfl
      · intro H5 l s5 eD2 hpl
        have el := ints_list (by rw [transp_get hi', List.length_map, lw]) hpl
        refine k _ _ s5 ⟨D2, rfl, ?_, by rw [← el]; exact eD2⟩
        rintro rfl
        rw [eD] at hD2
        cases hD2
    · intro H4 l s4 eD hpl
      have hrows := lists_rows (K := K) (m := transp m n) (by rw [transp_len]; omega) eD hpl
      have sm := s1.trans s4
      refine ⟨_, rfl, p, T.C_Grid, dx, _, _, rfl, sm _ _ ho, T.cl_Grid, T.n_rows, flds_rows _ _, a, ws, rfl, .inr (Same.seqT sm hs), ?_⟩
      rw [lw]
      exact make_grid hrows (by rw [transp_len]; exact hw) hl transp_row fun g H' s' G' => q g H' (sm.trans s') G'
theorem met_Grid_transposed (T : Top K mg) (hN : base.NoSeer) (hT : P.given.tree = none) : Met P w K mg base 5 T.C_Grid "transposed" (sp_Grid_transposed K T.C_Grid) [] := ⟨⟨_, _, _, [], T.cl_Grid, T.m_Grid_transposed, ok_Grid_transposed T hN hT, T.b_Grid_transposed, .nil⟩⟩
/-! ### a * b -/
def mulM (m1 m2 : List (List Int)) (w : Nat) : List (List Int) := m1.map fun r => (transp m2 w).map fun c => dotI r c
theorem mulM_len (m1 m2 : List (List Int)) (w : Nat) : (mulM m1 m2 w).length = m1.length := List.length_map ..
theorem mulM_row {m1 m2 : List (List Int)} {w : Nat} : ∀ r ∈ mulM m1 m2 w, r.length = w := fun r hr => by
  obtain ⟨k, _, rfl⟩ := List.mem_map.mp hr
  rw [List.length_map, transp_len]
theorem transp_bits {m : List (List Int)} {w B : Nat} (hw : ∀ r ∈ m, r.length = w) (hb : ∀ r ∈ m, Bits B r) : ∀ r ∈ transp m w, Bits B r := fun r hr x hx => by
  obtain ⟨k, hk, rfl⟩ := List.mem_map.mp hr
  obtain ⟨r', hr', rfl⟩ := List.mem_map.mp hx
  have hk' : k < r'.length := by rw [hw r' hr']; exact List.mem_range.mp hk
  rw [List.getD_eq_getElem?_getD, List.getElem?_eq_getElem hk']
  exact hb r' hr' _ (List.getElem_mem _)
def sp_Grid_mul (K : PySem.W.Frag) (C : Addr) : Sp := fun vs H Q _ => ∃ v1 m1 w1 v2 m2 w2 B1 B2, vs = [v1, v2] ∧ IsGrid K C H v1 m1 w1 ∧ IsGrid K C H v2 m2 w2 ∧ w1 = m2.length ∧ m1.length ≤ 1000 ∧ m2.length ≤ 1000 ∧ w2 ≤ 1000 ∧
  (∀ r ∈ m1, Bits B1 r) ∧ (∀ r ∈ m2, Bits B2 r) ∧ B1 + B2 ≤ 134217728 ∧ ∀ g H', Same H H' → IsGrid K C H' g (mulM m1 m2 w2) w2 → Q g H'
theorem ok_Grid_mul (T : Top K mg) (hN : base.NoSeer) (hT : P.given.tree = none) : FnOk P w K mg base CX0 6 T.a_Grid_mul T.d_Grid_mul ["self", "other"] (sp_Grid_mul K T.C_Grid) := by
  refine T.F_Grid_mul.ok sc_Grid_mul (fun vs H Q E h => ?_) (fun cdv A outer s H vs Q E hr h => ?_)
  · obtain ⟨v1, m1, w1, v2, m2, w2, B1, B2, rfl, _⟩ := h
    rfl
  · obtain ⟨v1, m1, w1, v2, m2, w2, B1, B2, rfl, G1, G2, hw, h1, h2, h3, b1, b2, hB, q⟩ := h
    obtain ⟨⟨p1, dx1, t1, rfl, ho1, a1, ws1, rfl, hs1, hp1⟩, hrw1⟩ := id G1
    obtain ⟨⟨p2, dx2, t2, rfl, ho2, a2, ws2, rfl, hs2, hp2⟩, hrw2⟩ := id G2
    have lw1 := Paired.length hp1
    have lw2 := Paired.length hp2
    refine ⟨_, (pss_cons (ps_if (pt_not (pt_val (pe_callB (isiK K rfl) (by rfl) T.z_isinstance (by decide +kernel) (pa_cons (pv 1) (pa_cons (pe_glob (by rfl) T.g_Grid (show RelV (.ref T.C_Grid) _ from rfl)) pa_nil)))))
      (pss_one ps_never)
      pss_nil)
      (pss_cons (ps_if (pt_cmpR op_ne (fldK K rfl (pv 0) rfl) (pe_callB (lenS K rfl) (by rfl) T.z_len (by decide +kernel) (pa_cons (fldK K rfl (pv 1) rfl) pa_nil)) (nomark _))
      (pss_one ps_never)
      pss_nil)
      (pss_cons (ps_set (i := 2) sc_Grid_mul.nd rfl (by first | exact .inl rfl | exact .inr rfl) (fldK K rfl (pe_mt0 (met_Grid_transposed T hN hT) hr (by decide) (pv 1)) rfl))
      (pss_one (ps_ret (pe_mk (mak_Grid T hN hT) hr (by decide) (by rfl) (pa_cons (pe_lc (own := [("row", 3)]) (g := (gName 3)) (by rfl) sc_Grid_mul.nd (piS K rfl (fldK K rfl (pv 0) rfl)) ((by show BlkOk ["self", "other", "columns", "row", "column"] (defScope s_Grid_mul) _ _; exact blkOk_by (by decide +kernel))) (fun _ _ _ _ _ => (pg_name (i := 3) sc_Grid_mul.nd rfl (by first | exact .inl rfl | exact .inr rfl))) (fun _ _ _ _ _ => pts_nil) (fun _ _ _ _ _ => (pe_lc (own := [("column", 4)]) (g := (gName 4)) (by rfl) sc_Grid_mul.nd (piS K rfl (pv 2)) ((by show BlkOk ["self", "other", "columns", "row", "column"] (relS _ (defScope s_Grid_mul)) _ _; exact blkOk_by (by decide +kernel))) (fun _ _ _ _ _ => (pg_name (i := 4) sc_Grid_mul.nd rfl (by first | exact .inl rfl | exact .inr rfl))) (fun _ _ _ _ _ => pts_nil) (fun _ _ _ _ _ => (pe_c (cal_dot T hN hT) hr (by decide) (by rfl) (pa_cons (pv 3) (pa_cons (pv 4) pa_nil))))))) (pa_cons (fldK K rfl (pv 1) rfl) pa_nil)))))))), ?_⟩
    -- if not isinstance(other, Grid)
    refine ⟨_, rfl, .ref p2, .ref T.C_Grid, _, _, true, rfl, .own _, .base (.ins ho2 T.cl_Grid T.kc_Grid T.kg_Grid T.kt_Grid T.km_Grid), ?_, true, rfl, ?_⟩
    · unfold PySem.W.kitOne
      rw [if_pos (beq_self_eq_true _)]
    refine iteF ?_
    -- if self.width != len(other.rows)
    refine ⟨_, rfl, p1, T.C_Grid, dx1, _, _, rfl, ho1, T.cl_Grid, T.n_width, flds_width _ _, _, rfl, p2, T.C_Grid, dx2, _, _, rfl, ho2, T.cl_Grid, T.n_rows, flds_rows _ _, a2, ws2, rfl, .inr hs2, rfl, _, rfl, ?_⟩
    refine iteNS (by rw [hw, lw2]) ?_
    -- columns = other.transposed().rows
    refine ⟨_, rfl, p2, dx2, _, rfl, ho2, m_transposed _ _, .ref p2, m2, w2, rfl, G2, h2, h3, fun g H1 s1 Gt => ?_⟩
    obtain ⟨⟨p3, dx3, t3, rfl, ho3, a3, ws3, rfl, hs3, hp3⟩, hrw3⟩ := id Gt
    have lw3 := Paired.length hp3
    rw [transp_len] at lw3
    refine ⟨p3, T.C_Grid, dx3, _, _, rfl, ho3, T.cl_Grid, T.n_rows, flds_rows _ _, ?_⟩
    -- the outer comprehension
    refine ⟨_, rfl, p1, T.C_Grid, dx1, _, _, rfl, s1 _ _ ho1, T.cl_Grid, T.n_rows, flds_rows _ _, a1, ws1, rfl, .inr (Same.seqT s1 hs1), fun J G W hG D hD => ?_⟩
    refine lc_all W hD (by omega) (fun H4 s4 => hG H4 fun b _ o => s4 b o) (fun i v H4 => ∃ p, v = V.ref p ∧ p ≠ D ∧ H4 p = some (.lst (((mulM m1 m2 w2).getD i []).map V.int))) lists_mono ?_ gm_name ?_
    · rintro i x H4 H4' acc Ko hi s4 eD ⟨rfl, ex⟩ k
      obtain ⟨r, er, hrt⟩ := Paired.getR hp1 ex
      have hrm := List.mem_of_getElem? er
      have eg : (mulM m1 m2 w2).getD i [] = (transp m2 w2).map fun c => dotI r c := by
        unfold mulM
        rw [List.getD_eq_getElem?_getD, List.getElem?_map, er]
        rfl
      refine ⟨rfl, ?_⟩
      refine ⟨_, rfl, a3, ws3, rfl, .inr (Same.seqT s4 hs3), fun J2 G2 W2 hG2 D2 hD2 => ?_⟩
      refine lc_all W2 hD2 (by omega) (fun H5 s5 => hG2 H5 fun b _ o => s5 b o) (fun j v _ => ∃ z, ((mulM m1 m2 w2).getD i [])[j]? = some z ∧ v = .int z) (fun _ _ _ _ _ _ _ h => h) ?_ gm_name ?_
      · rintro j y H5 H5' acc2 Ko2 hj s5 eD2 ⟨rfl, ey⟩ k2
        obtain ⟨c, ec, hct⟩ := Paired.getR hp3 ey
        have hcm := List.mem_of_getElem? ec
        refine ⟨rfl, ?_⟩
        refine ⟨_, rfl, _, rfl, x, y, r, c, B1, B2, rfl, hrt.same (s1.trans (s4.trans s5)), hct.same (s4.trans s5), ?_, ?_, b1 r hrm, transp_bits hrw2 b2 c hcm, hB, fun H6 s6 => ?_⟩
        · rw [hrw1 r hrm, hrw3 c hcm]
          exact hw
        · rw [hrw1 r hrm, hw]
          exact h2
        · refine k2 _ _ s6 ⟨dotI r c, ?_, rfl⟩
          rw [eg, List.getElem?_map, ec]
          rfl
      · intro H5 l s5 eD2 hpl
        have el := ints_list (by rw [eg, List.length_map, transp_len, lw3]) hpl
        refine k _ _ s5 ⟨D2, rfl, ?_, by rw [← el]; exact eD2⟩
        rintro rfl
        rw [eD] at hD2
        cases hD2
    · intro H4 l s4 eD hpl
      have hrows := lists_rows (K := K) (m := mulM m1 m2 w2) (by rw [mulM_len, lw1]) eD hpl
      have sm := s1.trans s4
      refine ⟨_, rfl, p2, T.C_Grid, dx2, _, _, rfl, sm _ _ ho2, T.cl_Grid, T.n_width, flds_width _ _, ?_⟩
      exact make_grid hrows (by rw [mulM_len]; exact h1) h3 mulM_row fun g H' s' G' => q g H' (sm.trans s') G'
/-! ### minors and the adjugate -/
def cutM (m : List (List Int)) (i j : Nat) : List (List Int) := (m.eraseIdx i).map fun r => r.eraseIdx j
theorem cutM_sq {n B : Nat} {m : List (List Int)} (h : Sq (n + 1) B m) {i j : Nat} (hi : i < n + 1) (hj : j < n + 1) : Sq n B (cutM m i j) := by
  have hi' : i < m.length := by rw [h.len]; exact hi
  refine ⟨?_, fun r hr => ?_, fun r hr => ?_⟩
  · unfold cutM
    rw [List.length_map, List.length_eraseIdx_of_lt hi', h.len]
    rfl
  · obtain ⟨r', hr', rfl⟩ := List.mem_map.mp hr
    have h1 := h.row r' (List.mem_of_mem_eraseIdx hr')
    rw [List.length_eraseIdx_of_lt (by omega), h1]
    rfl
  · obtain ⟨r', hr', rfl⟩ := List.mem_map.mp hr
    exact fun x hx => h.bits r' (List.mem_of_mem_eraseIdx hr') x (List.mem_of_mem_eraseIdx hx)
theorem erase_eq (l : List Int) (j : Nat) : l.take j ++ l.drop (j + 1) = l.eraseIdx j := (List.eraseIdx_eq_take_drop_succ l j).symm
def sp_minor (K : PySem.W.Frag) : Sp := fun vs H Q _ => ∃ (v : V) (m : List (List Int)) (n B i j : Nat), vs = [v, .int i, .int j] ∧ TRows K H v m ∧ Sq (n + 1) B m ∧ n ≤ 5 ∧ i < n + 1 ∧ j < n + 1 ∧ B ≤ 1200000 ∧ ∀ H', Same H H' → Q (.int (bare n 1 1 (cutM m i j))) H'
theorem ok_minor (T : Top K mg) (hN : base.NoSeer) (hT : P.given.tree = none) : FnOk P w K mg base CX0 43 T.a_minor T.d_minor ["rows", "i", "j"] (sp_minor K) := by
  refine T.F_minor.ok sc_minor (fun vs H Q E h => ?_) (fun cdv A outer s H vs Q E hr h => ?_)
  · obtain ⟨v, m, n, B, i, j, rfl, _⟩ := h
    rfl
  · obtain ⟨v, m, n, B, i, j, rfl, ⟨a, ws, rfl, hs, hp⟩, sq, hn, hi, hj, hB, q⟩ := h
    have lw := Paired.length hp
    refine ⟨_, (pss_cons (ps_setLc (i := 3) (own := [("k", 4), ("row", 5)]) (g := (gTup K 2 (gCons (gName 4) (gCons (gName 5) gNil)))) (by rfl) sc_minor.nd rfl rfl (sw_true rfl rfl rfl (by decide +kernel)) (piEnum K rfl (by rfl) T.z_enumerate (pa_cons (pv 0) pa_nil)) ((by show BlkOk ["rows", "i", "j", "kept", "k", "row"] (defScope s_minor) _ _; exact blkOk_by (by decide +kernel))) (fun _ _ _ _ _ => (pg_tup rfl (pgs_cons (pg_name (i := 4) sc_minor.nd rfl (by first | exact .inl rfl | exact .inr rfl)) (pgs_cons (pg_name (i := 5) sc_minor.nd rfl (by first | exact .inl rfl | exact .inr rfl)) pgs_nil)))) (fun _ _ _ _ _ => (pts_one (pt_cmpR op_ne (pv 4) (pv 1) (nomark _)))) (fun _ _ _ _ _ => (pe_op (catK K rfl) (pe_slice (slTK K rfl) (pv 5) po_none (po_some (pv 2))) (pe_slice (slTK K rfl) (pv 5) (po_some (pe_op op_add (pv 2) pe_int)) po_none))))
      (pss_one (ps_ret (pe_c (cal_determinant_of T hN hT) hr (by decide) (by rfl) (pa_cons (pv 3) pa_nil))))), ?_⟩
    refine ⟨_, rfl, a, ws, rfl, .inr hs, fun J G W hG D hD => ?_⟩
    refine lc_gen W hD (by rw [lw, sq.len]; omega) (fun H4 s4 => hG H4 fun b _ o => s4 b o) (fun k => decide (k ≠ i)) (fun k v H4 => TRow K H4 v ((m.getD k []).eraseIdx j)) (fun _ _ _ _ _ e o h => TRow.off e o h) ?_ ?_
    · rintro k x H4 H4' acc Ko Kn hk s4 eD ⟨U, x1, x2, rfl, nU, rfl, e1, e2⟩ kk kn
      cases e1
      have sU : Same H4 (upd H4 U (.tup [.int (k : Nat), x2])) := same_upd nU
      obtain ⟨r, er, b, rfl, hb⟩ := Paired.getR hp e2
      have hb' := Same.seqT (s4.trans sU) hb
      have hrl := sq.row r (List.mem_of_getElem? er)
      refine g_pair nU ⟨rfl, ?_⟩
      refine ⟨_, rfl, _, rfl, rfl, _, rfl, ?_⟩
      by_cases hik : k = i
      · subst hik
        rw [decide_eq_true rfl]
        refine iteF ?_
        exact kn (by simp) _ sU
      · have hik' : ¬ ((k : Int) = (i : Int)) := by omega
        rw [decide_eq_false fun z => hik' (V.int.inj z)]
        refine iteT ?_
        refine ⟨_, rfl, _, rfl, (j : Int), rfl, ?_⟩
        refine slA_take hb' j fun p1 H5 s5 t1 => ?_
        refine ⟨_, rfl, _, rfl, _, _, rfl, rfl, _, rfl, ?_⟩
        rw [show (j : Int) + 1 = ((j + 1 : Nat) : Int) by omega]
        refine (show rSlA K (.ref b) (some ((j + 1 : Nat) : Int)) none H5 (fun y H2 => rCatA K (.ref p1) y H2 Ko) from ?_)
        refine slA_drop (Same.seqT s5 hb') (j + 1) fun p2 H6 s6 t2 => ?_
        refine catA (Same.seqT s6 t1) t2 (by simp only [List.length_take, List.length_drop, List.length_map]; omega) fun p3 H7 s7 t3 => ?_
        refine kk (by simpa using hik) _ _ (sU.trans (s5.trans (s6.trans s7))) ⟨p3, rfl, ?_⟩
        rw [show m.getD k [] = r by rw [List.getD_eq_getElem?_getD, er]; rfl, ← erase_eq, List.map_append, List.map_take, List.map_drop]
        exact t3
    · intro H4 l s4 eD hpl
      rw [filter_ne_range] at hpl
      have hrows : IRows K H4 (.ref D) (cutM m i j) := by
        refine ⟨D, l, rfl, .inl (.inl (.inl eD)), ?_⟩
        unfold cutM
        rw [erase_map_range, ← lw]
        exact L2.Paired.mapP (paired_map (F := TRow K H4) (f := fun k => (m.getD k []).eraseIdx j) hpl) fun _ _ => TRow.row
      exact ⟨_, rfl, .ref D, cutM m i j, n, B, rfl, hrows, cutM_sq sq hi hj, hn, hB, fun H5 s5 => q _ (s4.trans s5)⟩
theorem cal_minor (T : Top K mg) (hN : base.NoSeer) (hT : P.given.tree = none) : Cal P w K mg base 43 "minor" (sp_minor K) [] := ⟨⟨_, _, _, [], ok_minor T hN hT, T.g_minor, T.F_minor.kp, T.b_minor, .nil⟩⟩
def sminor (n : Nat) (m : List (List Int)) (i j : Nat) : Int := if (i + j) % 2 = 1 then -bare n 1 1 (cutM m i j) else bare n 1 1 (cutM m i j)
def sp_signed_minor (K : PySem.W.Frag) : Sp := fun vs H Q _ => ∃ (v : V) (m : List (List Int)) (n B i j : Nat), vs = [v, .int i, .int j] ∧ TRows K H v m ∧ Sq (n + 1) B m ∧ n ≤ 5 ∧ i < n + 1 ∧ j < n + 1 ∧ B ≤ 1200000 ∧ ∀ H', Same H H' → Q (.int (sminor n m i j)) H'
theorem ok_signed_minor (T : Top K mg) (hN : base.NoSeer) (hT : P.given.tree = none) : FnOk P w K mg base CX0 44 T.a_signed_minor T.d_signed_minor ["rows", "i", "j"] (sp_signed_minor K) := by
  refine T.F_signed_minor.ok sc_signed_minor (fun vs H Q E h => ?_) (fun cdv A outer s H vs Q E hr h => ?_)
  · obtain ⟨v, m, n, B, i, j, rfl, _⟩ := h
    rfl
  · obtain ⟨v, m, n, B, i, j, rfl, ht, sq, hn, hi, hj, hB, q⟩ := h
    refine ⟨_, (pss_one (ps_ret (pe_ifExp (pt_truth (pe_op op_odd (pe_op op_add (pv 1) (pv 2)) pe_int) (by intro _; rfl)) (pe_un un_neg (pe_c (cal_minor T hN hT) hr (by decide) (by rfl) (pa_cons (pv 0) (pa_cons (pv 1) (pa_cons (pv 2) pa_nil))))) (pe_c (cal_minor T hN hT) hr (by decide) (by rfl) (pa_cons (pv 0) (pa_cons (pv 1) (pa_cons (pv 2) pa_nil))))))), ?_⟩
    refine ⟨_, rfl, _, rfl, _, _, rfl, rfl, i + j, by rw [show ((i + j : Nat) : Int) = (i : Int) + (j : Int) by omega], rfl, _, rfl, ?_⟩
    unfold sminor at q
    by_cases h2 : (i + j) % 2 = 1
    · rw [if_pos h2] at q
      rw [show ((((i + j) % 2 : Nat) : Int) != 0) = true by rw [h2]; rfl]
      refine iteT ?_
      exact ⟨_, rfl, _, rfl, _, rfl, v, m, n, B, i, j, rfl, ht, sq, hn, hi, hj, hB, fun H2 s2 => ⟨_, rfl, q _ s2⟩⟩
    · rw [if_neg h2] at q
      rw [show ((((i + j) % 2 : Nat) : Int) != 0) = false by rw [show (i + j) % 2 = 0 by omega]; rfl]
      refine iteF ?_
      exact ⟨_, rfl, _, rfl, _, rfl, v, m, n, B, i, j, rfl, ht, sq, hn, hi, hj, hB, q⟩
theorem cal_signed_minor (T : Top K mg) (hN : base.NoSeer) (hT : P.given.tree = none) : Cal P w K mg base 44 "signed_minor" (sp_signed_minor K) [] := ⟨⟨_, _, _, [], ok_signed_minor T hN hT, T.g_signed_minor, T.F_signed_minor.kp, T.b_signed_minor, .nil⟩⟩
/-- the adjugate, n the number of rows less 1 (0 rows: 0 too) -/
def adjM (n : Nat) (m : List (List Int)) : List (List Int) := (List.range m.length).map fun i => (List.range m.length).map fun j => sminor n m j i
theorem adjM_get {n i : Nat} {m : List (List Int)} (h : i < m.length) : (adjM n m).getD i [] = (List.range m.length).map fun j => sminor n m j i := by
  unfold adjM
  rw [List.getD_eq_getElem?_getD, List.getElem?_map, List.getElem?_range h]
  rfl
theorem adjM_len (n : Nat) (m : List (List Int)) : (adjM n m).length = m.length := by
  unfold adjM
  rw [List.length_map, List.length_range]
theorem adjM_row {n : Nat} {m : List (List Int)} : ∀ r ∈ adjM n m, r.length = m.length := fun r hr => by
  obtain ⟨k, _, rfl⟩ := List.mem_map.mp hr
  rw [List.length_map, List.length_range]
def sp_adjugate_of (K : PySem.W.Frag) : Sp := fun vs H Q _ => ∃ (v : V) (m : List (List Int)) (n B : Nat), vs = [v] ∧ TRows K H v m ∧ Sq n B m ∧ n ≤ 5 ∧ B ≤ 1200000 ∧ ∀ v' H', Same H H' → IRows K H' v' (adjM (n - 1) m) → Q v' H'
theorem ok_adjugate_of (T : Top K mg) (hN : base.NoSeer) (hT : P.given.tree = none) : FnOk P w K mg base CX0 45 T.a_adjugate_of T.d_adjugate_of ["rows"] (sp_adjugate_of K) := by
  refine T.F_adjugate_of.ok sc_adjugate_of (fun vs H Q E h => ?_) (fun cdv A outer s H vs Q E hr h => ?_)
  · obtain ⟨v, m, n, B, rfl, _⟩ := h
    rfl
  · obtain ⟨v, m, n, B, rfl, ht, sq, hn, hB, q⟩ := h
    obtain ⟨a, ws, rfl, hs, hp⟩ := id ht
    have lw := Paired.length hp
    refine ⟨_, (pss_cons (ps_set (i := 1) sc_adjugate_of.nd rfl (by first | exact .inl rfl | exact .inr rfl) (pe_callTy (cr_range1) (by rfl) T.z_range (by decide +kernel) (pa_cons (pe_callB (lenS K rfl) (by rfl) T.z_len (by decide +kernel) (pa_cons (pv 0) pa_nil)) pa_nil)))
      (pss_one (ps_ret (pe_lc (own := [("i", 2)]) (g := (gName 2)) (by rfl) sc_adjugate_of.nd (pi_rngv (pv 1)) ((by show BlkOk ["rows", "places", "i", "j"] (defScope s_adjugate_of) _ _; exact blkOk_by (by decide +kernel))) (fun _ _ _ _ _ => (pg_name (i := 2) sc_adjugate_of.nd rfl (by first | exact .inl rfl | exact .inr rfl))) (fun _ _ _ _ _ => pts_nil) (fun _ _ _ _ _ => (pe_lc (own := [("j", 3)]) (g := (gName 3)) (by rfl) sc_adjugate_of.nd (pi_rngv (pv 1)) ((by show BlkOk ["rows", "places", "i", "j"] (relS _ (defScope s_adjugate_of)) _ _; exact blkOk_by (by decide +kernel))) (fun _ _ _ _ _ => (pg_name (i := 3) sc_adjugate_of.nd rfl (by first | exact .inl rfl | exact .inr rfl))) (fun _ _ _ _ _ => pts_nil) (fun _ _ _ _ _ => (pe_c (cal_signed_minor T hN hT) hr (by decide) (by rfl) (pa_cons (pv 0) (pa_cons (pv 3) (pa_cons (pv 2) pa_nil))))))))))), ?_⟩
    refine ⟨_, rfl, a, ws, rfl, .inr hs, _, rfl, fun pr npr => ?_⟩
    have s1 : Same H (upd H pr (.rng 0 (ws.length : Int))) := same_upd npr
    have hlen := sq.len
    refine ⟨_, rfl, pr, _, _, rfl, upd_same, ⟨by decide, by decide, by omega, by omega⟩, fun D hD => ?_⟩
    refine lc_all walk_range hD (by omega) (fun _ _ => trivial) (fun i v H4 => ∃ p, v = V.ref p ∧ p ≠ D ∧ H4 p = some (.lst (((adjM (n - 1) m).getD i []).map V.int))) lists_mono ?_ gm_name ?_
    · rintro i x H4 H4' acc Ko hi s4 eD ⟨rfl, rfl⟩ k
      have hi' : i < m.length := by omega
      refine ⟨rfl, ?_⟩
      refine ⟨_, rfl, pr, _, _, rfl, s4 _ _ upd_same, ⟨by decide, by decide, by omega, by omega⟩, fun D2 hD2 => ?_⟩
      refine lc_all walk_range hD2 (by omega) (fun _ _ => trivial) (fun j v _ => ∃ z, ((adjM (n - 1) m).getD i [])[j]? = some z ∧ v = .int z) (fun _ _ _ _ _ _ _ h => h) ?_ gm_name ?_
      · rintro j y H5 H5' acc2 Ko2 hj s5 eD2 ⟨rfl, rfl⟩ k2
        have hj' : j < m.length := by omega
        refine ⟨rfl, ?_⟩
        refine ⟨_, rfl, _, rfl, _, rfl, .ref a, m, n - 1, B, j, i, ?_, ht.same (s1.trans (s4.trans s5)), by rw [show n - 1 + 1 = n by omega]; exact sq, by omega, by omega, by omega, hB, fun H6 s6 => ?_⟩
        · show [V.ref a, V.int (0 + (j : Int)), V.int (0 + (i : Int))] ++ [] = _
          rw [Int.zero_add, Int.zero_add]
          rfl
        · refine k2 _ _ s6 ⟨_, ?_, rfl⟩
          rw [adjM_get hi', List.getElem?_map, List.getElem?_range hj']
          rfl
      · intro H5 l s5 eD2 hpl
        have el := ints_list (by rw [adjM_get hi', List.length_map, List.length_range]; omega) hpl
        refine k _ _ s5 ⟨D2, rfl, ?_, by rw [← el]; exact eD2⟩
        rintro rfl
        rw [eD] at hD2
        cases hD2
    · intro H4 l s4 eD hpl
      exact q _ _ (s1.trans s4) (lists_rows (K := K) (m := adjM (n - 1) m) (by rw [adjM_len]; omega) eD hpl)
theorem cal_adjugate_of (T : Top K mg) (hN : base.NoSeer) (hT : P.given.tree = none) : Cal P w K mg base 45 "adjugate_of" (sp_adjugate_of K) [] := ⟨⟨_, _, _, [], ok_adjugate_of T hN hT, T.g_adjugate_of, T.F_adjugate_of.kp, T.b_adjugate_of, .nil⟩⟩
def sp_Grid_adjugate (K : PySem.W.Frag) (C : Addr) : Sp := fun vs H Q _ => ∃ v m n B, vs = [v] ∧ IsGrid K C H v m n ∧ Sq n B m ∧ n ≤ 5 ∧ B ≤ 1200000 ∧ ∀ g H', Same H H' → IsGrid K C H' g (adjM (n - 1) m) n → Q g H'
theorem ok_Grid_adjugate (T : Top K mg) (hN : base.NoSeer) (hT : P.given.tree = none) : FnOk P w K mg base CX0 46 T.a_Grid_adjugate T.d_Grid_adjugate ["self"] (sp_Grid_adjugate K T.C_Grid) := by
  refine T.F_Grid_adjugate.ok sc_Grid_adjugate (fun vs H Q E h => ?_) (fun cdv A outer s H vs Q E hr h => ?_)
  · obtain ⟨v, m, n, B, rfl, _⟩ := h
    rfl
  · obtain ⟨v, m, n, B, rfl, G, sq, hn, hB, q⟩ := h
    obtain ⟨⟨p, dx, t, rfl, ho, ht⟩, hrw⟩ := id G
    refine ⟨_, (pss_cons (ps_expr (pe_c (cal_check_square T hN hT) hr (by decide) (by rfl) (pa_cons (pv 0) pa_nil)))
      (pss_one (ps_ret (pe_mk (mak_Grid T hN hT) hr (by decide) (by rfl) (pa_cons (pe_c (cal_adjugate_of T hN hT) hr (by decide) (by rfl) (pa_cons (fldK K rfl (pv 0) rfl) pa_nil)) (pa_cons (fldK K rfl (pv 0) rfl) pa_nil)))))), ?_⟩
    refine ⟨_, rfl, .ref p, m, n, rfl, G, sq.len, ?_⟩
    refine ⟨_, rfl, p, T.C_Grid, dx, _, t, rfl, ho, T.cl_Grid, T.n_rows, flds_rows _ _, t, m, n, B, rfl, ht, sq, hn, hB, fun v' H1 s1 hv' => ?_⟩
    refine ⟨_, rfl, p, T.C_Grid, dx, _, _, rfl, s1 _ _ ho, T.cl_Grid, T.n_width, flds_width _ _, ?_⟩
    exact make_grid hv' (by rw [adjM_len, sq.len]; omega) (by omega) (fun r hr => by rw [adjM_row r hr, sq.len]) fun g H' s' G' => q g H' (s1.trans s') G'
theorem met_Grid_adjugate (T : Top K mg) (hN : base.NoSeer) (hT : P.given.tree = none) : Met P w K mg base 46 T.C_Grid "adjugate" (sp_Grid_adjugate K T.C_Grid) [] := ⟨⟨_, _, _, [], T.cl_Grid, T.m_Grid_adjugate, ok_Grid_adjugate T hN hT, T.b_Grid_adjugate, .nil⟩⟩

end
end K14
namespace K14
open PySem PySem.Spec PyProof.Rows L2 Gm
open C8 (Cal Met Mak pe_c pe_mt pe_mt0 pe_mk)
section
variable {P : Program} {w : World} {K : PySem.W.Frag} {mg : Str → Option Value} {base : Heap}
/-! ### scaled -/
def scaleM (k : Int) (m : List (List Int)) : List (List Int) := m.map fun r => r.map fun x => k * x
theorem scaleM_len (k : Int) (m : List (List Int)) : (scaleM k m).length = m.length := List.length_map ..
theorem scaleM_row {k : Int} {m : List (List Int)} {w : Nat} (h : ∀ r ∈ m, r.length = w) : ∀ r ∈ scaleM k m, r.length = w := fun r hr => by
  obtain ⟨x, hx, rfl⟩ := List.mem_map.mp hr
  rw [List.length_map]
  exact h x hx
def sp_Grid_scaled (K : PySem.W.Frag) (C : Addr) : Sp := fun vs H Q _ => ∃ v m w k Bk B, vs = [v, .int k] ∧ IsGrid K C H v m w ∧ m.length ≤ 1000 ∧ w ≤ 1000 ∧ k.natAbs < 2 ^ Bk ∧ (∀ r ∈ m, Bits B r) ∧ Bk + B ≤ 134217728 ∧ ∀ g H', Same H H' → IsGrid K C H' g (scaleM k m) w → Q g H'
theorem ok_Grid_scaled (T : Top K mg) (hN : base.NoSeer) (hT : P.given.tree = none) : FnOk P w K mg base CX0 5 T.a_Grid_scaled T.d_Grid_scaled ["self", "k"] (sp_Grid_scaled K T.C_Grid) := by
  refine T.F_Grid_scaled.ok sc_Grid_scaled (fun vs H Q E h => ?_) (fun cdv A outer s H vs Q E hr h => ?_)
  · obtain ⟨v, m, w, k, Bk, B, rfl, _⟩ := h
    rfl
  · obtain ⟨v, m, n, c, Bk, B, rfl, G, hl, hw, bk, bm, hB, q⟩ := h
    obtain ⟨⟨p, dx, t, rfl, ho, a, ws, rfl, hs, hp⟩, hrw⟩ := id G
    have lw := Paired.length hp
    refine ⟨_, (pss_one (ps_ret (pe_mk (mak_Grid T hN hT) hr (by decide) (by rfl) (pa_cons (pe_lc (own := [("row", 2)]) (g := (gName 2)) (by rfl) sc_Grid_scaled.nd (piS K rfl (fldK K rfl (pv 0) rfl)) ((by show BlkOk ["self", "k", "row", "item"] (defScope s_Grid_scaled) _ _; exact blkOk_by (by decide +kernel))) (fun _ _ _ _ _ => (pg_name (i := 2) sc_Grid_scaled.nd rfl (by first | exact .inl rfl | exact .inr rfl))) (fun _ _ _ _ _ => pts_nil) (fun _ _ _ _ _ => (pe_lc (own := [("item", 3)]) (g := (gName 3)) (by rfl) sc_Grid_scaled.nd (piS K rfl (pv 2)) ((by show BlkOk ["self", "k", "row", "item"] (relS _ (defScope s_Grid_scaled)) _ _; exact blkOk_by (by decide +kernel))) (fun _ _ _ _ _ => (pg_name (i := 3) sc_Grid_scaled.nd rfl (by first | exact .inl rfl | exact .inr rfl))) (fun _ _ _ _ _ => pts_nil) (fun _ _ _ _ _ => (pe_op op_mulX (pv 1) (pv 3)))))) (pa_cons (fldK K rfl (pv 0) rfl) pa_nil))))), ?_⟩
    refine ⟨_, rfl, p, T.C_Grid, dx, _, _, rfl, ho, T.cl_Grid, T.n_rows, flds_rows _ _, a, ws, rfl, .inr hs, fun J G0 W hG D hD => ?_⟩
    refine lc_all W hD (by omega) (fun H4 s4 => hG H4 fun b _ o => s4 b o) (fun i v H4 => ∃ p, v = V.ref p ∧ p ≠ D ∧ H4 p = some (.lst (((scaleM c m).getD i []).map V.int))) lists_mono ?_ gm_name ?_
    · rintro i x H4 H4' acc Ko hi s4 eD ⟨rfl, ex⟩ k
      obtain ⟨r, er, b, rfl, hb⟩ := Paired.getR hp ex
      have hrm := List.mem_of_getElem? er
      have hrl := hrw r hrm
      have eg : (scaleM c m).getD i [] = r.map fun x => c * x := by
        unfold scaleM
        rw [List.getD_eq_getElem?_getD, List.getElem?_map, er]
        rfl
      refine ⟨rfl, ?_⟩
      refine ⟨_, rfl, b, _, rfl, .inr (Same.seqT s4 hb), fun J2 G2 W2 hG2 D2 hD2 => ?_⟩
      refine lc_all W2 hD2 (by rw [List.length_map]; omega) (fun H5 s5 => hG2 H5 fun b _ o => s5 b o) (fun j v _ => ∃ z, ((scaleM c m).getD i [])[j]? = some z ∧ v = .int z) (fun _ _ _ _ _ _ _ h => h) ?_ gm_name ?_
      · rintro j y H5 H5' acc2 Ko2 hj s5 eD2 ⟨rfl, ey⟩ k2
        obtain ⟨z, ez, rfl⟩ := ints_get ey
        refine ⟨rfl, ?_⟩
        refine ⟨_, rfl, _, rfl, c, z, rfl, rfl, mulx_ok bk ((bm r hrm).at ez) hB, ?_⟩
        refine k2 _ _ (Same.refl _) ⟨c * z, ?_, rfl⟩
        rw [eg, List.getElem?_map, ez]
        rfl
      · intro H5 l s5 eD2 hpl
        have el := ints_list (by rw [eg, List.length_map, List.length_map]) hpl
        refine k _ _ s5 ⟨D2, rfl, ?_, by rw [← el]; exact eD2⟩
        rintro rfl
        rw [eD] at hD2
        cases hD2
    · intro H4 l s4 eD hpl
      have hrows := lists_rows (K := K) (m := scaleM c m) (by rw [scaleM_len]; omega) eD hpl
      refine ⟨_, rfl, p, T.C_Grid, dx, _, _, rfl, s4 _ _ ho, T.cl_Grid, T.n_width, flds_width _ _, ?_⟩
      exact make_grid hrows (by rw [scaleM_len]; exact hl) hw (scaleM_row hrw) fun g H' s' G' => q g H' (s4.trans s') G'
theorem met_Grid_scaled (T : Top K mg) (hN : base.NoSeer) (hT : P.given.tree = none) : Met P w K mg base 5 T.C_Grid "scaled" (sp_Grid_scaled K T.C_Grid) [] := ⟨⟨_, _, _, [], T.cl_Grid, T.m_Grid_scaled, ok_Grid_scaled T hN hT, T.b_Grid_scaled, .nil⟩⟩
theorem m_scaled (t : V) (w : Nat) : (flds t w).lookup ("scaled" : Str) = none := flds_no t w (by decide +kernel) (by decide +kernel)
theorem m_stacked (t : V) (w : Nat) : (flds t w).lookup ("stacked" : Str) = none := flds_no t w (by decide +kernel) (by decide +kernel)
/-! ### -a -/

end
end K14
namespace K14
open PySem PySem.Spec PyProof.Rows L2 Gm
open C8 (Cal Met Mak pe_c pe_mt pe_mt0 pe_mk)
section
variable {P : Program} {w : World} {K : PySem.W.Frag} {mg : Str → Option Value} {base : Heap}
/-! ### tables as data -/
def pdR (r : List Int) : PyData := .tuple (r.map .int)
def pdM (m : List (List Int)) : PyData := .tuple (m.map pdR)
theorem dp_ints {K : PySem.W.Frag} {H : Hp} : ∀ r : List Int, DpAll K H (r.map V.int) (r.map PyData.int)
  | [] => .nil
  | _ :: r => .cons (.int _) (dp_ints r)
theorem dp_row {K : PySem.W.Frag} {H : Hp} {v : V} {r : List Int} (h : TRow K H v r) : Dp K H v (pdR r) := by
  obtain ⟨a, rfl, hs⟩ := h
  exact .tup hs (dp_ints r)
theorem dp_paired {K : PySem.W.Frag} {H : Hp} : ∀ {vs : List V} {m : List (List Int)}, Paired (TRow K H) vs m → DpAll K H vs (m.map pdR)
  | _, _, .nil => .nil
  | _, _, .cons r t => .cons (dp_row r) (dp_paired t)
theorem dp_rows {K : PySem.W.Frag} {H : Hp} {v : V} {m : List (List Int)} (h : TRows K H v m) : Dp K H v (pdM m) := by
  obtain ⟨a, vs, rfl, hs, hp⟩ := h
  exact .tup hs (dp_paired hp)
theorem lay_ints : ∀ r : List Int, PyData.canLayAll0 (r.map PyData.int) = true
  | [] => by simp [PyData.canLayAll0]
  | _ :: r => by simp [PyData.canLayAll0, PyData.canLay0, lay_ints r]
theorem lay_rows : ∀ m : List (List Int), PyData.canLayAll0 (m.map pdR) = true
  | [] => by simp [PyData.canLayAll0]
  | r :: m => by simp [PyData.canLayAll0, PyData.canLay0, pdR, lay_rows m, lay_ints r]
theorem lay_pdM (m : List (List Int)) : (pdM m).canLay0 = true := by simp [pdM, PyData.canLay0, lay_rows m]
theorem dep_ints : ∀ r : List Int, PyData.depthAll (r.map PyData.int) = 0
  | [] => by simp [PyData.depthAll]
  | _ :: r => by simp [PyData.depthAll, PyData.depth, dep_ints r]
theorem dep_rows : ∀ m : List (List Int), PyData.depthAll (m.map pdR) ≤ 1
  | [] => by simp [PyData.depthAll]
  | r :: m => by
    have := dep_rows m
    simp only [List.map_cons, PyData.depthAll, PyData.depth, pdR, dep_ints r]
    omega
theorem shaped_pdM (m : List (List Int)) : SeqAt.shaped (pdM m) = true := by
  unfold SeqAt.shaped
  rw [Bool.and_eq_true, lay_pdM]
  refine ⟨rfl, decide_eq_true ?_⟩
  have := dep_rows m
  simp only [pdM, PyData.depth]
  omega
/-- equal tables are equal -/
theorem ne_rows {K : PySem.W.Frag} {H : Hp} {v u : V} {m1 m2 : List (List Int)} {Q : VK} (h1 : TRows K H v m1) (h2 : TRows K H u m2) (e : m1 = m2) (q : Q (.bl false) H) : rNeD K v u H Q := by
  subst e
  refine ⟨pdM m1, pdM m1, dp_rows h1, dp_rows h2, shaped_pdM _, shaped_pdM _, ?_⟩
  rw [PySem.SeqAt.eqv_refl _ (lay_pdM m1)]
  exact q

end
end K14
namespace K14
open PySem PySem.Spec PyProof.Rows L2 Gm
open C8 (Cal Met Mak pe_c pe_mt pe_mt0 pe_mk)
section
variable {P : Program} {w : World} {K : PySem.W.Frag} {mg : Str → Option Value} {base : Heap}
theorem row_ty {K : PySem.W.Frag} {H : Hp} {a : Addr} {xs : List V} (h : SqT K H a xs) : TyX K H (.ref a) (.type "tuple") := by
  rcases h with (h | ⟨o, h⟩) | ⟨o, its, n, h, c, _⟩
  · exact .base (.tup h)
  · exact .fTuple h
  · exact .kTuple h c

end
end K14
namespace K14
open PySem PySem.Spec PyProof.Rows L2 Gm
open C8 (Cal Met Mak pe_c pe_mt pe_mt0 pe_mk)
section
variable {P : Program} {w : World} {K : PySem.W.Frag} {mg : Str → Option Value} {base : Heap}
theorem eqv_ints : ∀ r q : List Int, PyData.eqvAll (r.map PyData.int) (q.map PyData.int) = decide (r = q)
  | [], [] => by simp [PyData.eqvAll]
  | [], b :: q => by simp [PyData.eqvAll]
  | a :: r, [] => by simp [PyData.eqvAll]
  | a :: r, b :: q => by
    simp only [List.map_cons, PyData.eqvAll, PyData.eqv, eqv_ints r q]
    by_cases h : a = b
    · subst h
      by_cases h2 : r = q
      · subst h2
        simp
      · simp [h2]
    · simp [h]
theorem eqv_rows : ∀ m l : List (List Int), PyData.eqvAll (m.map pdR) (l.map pdR) = decide (m = l)
  | [], [] => by simp [PyData.eqvAll]
  | [], b :: q => by simp [PyData.eqvAll]
  | a :: r, [] => by simp [PyData.eqvAll]
  | a :: r, b :: q => by
    simp only [List.map_cons, PyData.eqvAll, pdR, PyData.eqv, eqv_ints a b]
    have ih := eqv_rows r q
    rw [ih]
    by_cases h : a = b
    · subst h
      by_cases h2 : r = q
      · subst h2
        simp
      · simp [h2]
    · simp [h]
theorem eqv_pdM (m l : List (List Int)) : PyData.eqv (pdM m) (pdM l) = decide (m = l) := by
  simp only [pdM, PyData.eqv]
  exact eqv_rows m l
theorem eq_rows {K : PySem.W.Frag} {H : Hp} {v u : V} {m1 m2 : List (List Int)} {Q : VK} (h1 : TRows K H v m1) (h2 : TRows K H u m2) (q : Q (.bl (decide (m1 = m2))) H) : rEqD K v u H Q := by
  refine ⟨pdM m1, pdM m2, dp_rows h1, dp_rows h2, shaped_pdM _, shaped_pdM _, ?_⟩
  rw [eqv_pdM]
  exact q
theorem tup_not {K : PySem.W.Frag} {C : Addr} : PySem.W.subIn K (.type "tuple") (.ref C) = some false := by
  have e : fastBuiltinMro "tuple" = some [.type "tuple", .type "object"] := by decide +kernel
  show (fastBuiltinMro "tuple").map (·.contains (.ref C)) = some false
  rw [e] <;> rfl
/-! ### a == b -/
def sp_Grid_eq (K : PySem.W.Frag) (C : Addr) : Sp := fun vs H Q _ => ∃ v m w u m2, vs = [v, u] ∧ IsGrid K C H v m w ∧ ((∃ w2, IsGrid K C H u m2 w2 ∧ Q (.bl (decide (m = m2 ∧ w = w2))) H) ∨ (TRows K H u m2 ∧ Q (.bl false) H))
theorem ok_Grid_eq (T : Top K mg) (hN : base.NoSeer) (hT : P.given.tree = none) : FnOk P w K mg base CX0 1 T.a_Grid_eq T.d_Grid_eq ["self", "other"] (sp_Grid_eq K T.C_Grid) := by
  refine T.F_Grid_eq.ok sc_Grid_eq (fun vs H Q E h => ?_) (fun cdv A outer s H vs Q E hr h => ?_)
  · obtain ⟨v, m, w, u, m2, rfl, _⟩ := h
    rfl
  · obtain ⟨v, m, n, u, m2, rfl, G, q⟩ := h
    obtain ⟨⟨p, dx, t, rfl, ho, ht⟩, hrw⟩ := id G
    refine ⟨_, (pss_one (ps_ret (pe_and (pe_callB (isiK K rfl) (by rfl) T.z_isinstance (by decide +kernel) (pa_cons (pv 1) (pa_cons (pe_glob (by rfl) T.g_Grid (show RelV (.ref T.C_Grid) _ from rfl)) pa_nil))) (pe_and (pe_cmpR (eqDK K rfl hr) (fldK K rfl (pv 0) rfl) (fldK K rfl (pv 1) rfl) (nomark _)) (pe_one (pe_cmpR op_eq (fldK K rfl (pv 0) rfl) (fldK K rfl (pv 1) rfl) (nomark _))))))), ?_⟩
    rcases q with ⟨w2, G2, q⟩ | ⟨hu, q⟩
    · obtain ⟨⟨p2, dx2, t2, rfl, ho2, ht2⟩, hrw2⟩ := id G2
      refine ⟨_, rfl, .ref p2, .ref T.C_Grid, _, _, true, rfl, .own _, .base (.ins ho2 T.cl_Grid T.kc_Grid T.kg_Grid T.kt_Grid T.km_Grid), ?_, true, rfl, ?_⟩
      · unfold PySem.W.kitOne
        rw [if_pos (beq_self_eq_true _)]
      refine iteT ?_
      refine ⟨_, rfl, p, T.C_Grid, dx, _, _, rfl, ho, T.cl_Grid, T.n_rows, flds_rows _ _, _, rfl, p2, T.C_Grid, dx2, _, _, rfl, ho2, T.cl_Grid, T.n_rows, flds_rows _ _, eq_rows ht ht2 ⟨_, rfl, ?_⟩⟩
      by_cases hm : m = m2
      · rw [decide_eq_true hm]
        refine iteT ?_
        refine ⟨_, rfl, p, T.C_Grid, dx, _, _, rfl, ho, T.cl_Grid, T.n_width, flds_width _ _, _, rfl, p2, T.C_Grid, dx2, _, _, rfl, ho2, T.cl_Grid, T.n_width, flds_width _ _, rfl, ?_⟩
        have e : decide (V.int (n : Int) = V.int (w2 : Int)) = decide (m = m2 ∧ n = w2) := by
          by_cases hw : n = w2
          · rw [decide_eq_true (show m = m2 ∧ n = w2 from ⟨hm, hw⟩), decide_eq_true (by rw [hw])]
          · rw [decide_eq_false (fun z : m = m2 ∧ n = w2 => hw z.2), decide_eq_false (fun z => hw (by have := V.int.inj z; omega))]
        show Q (.bl (decide (V.int (n : Int) = V.int (w2 : Int)))) H
        rw [e]
        exact q
      · rw [decide_eq_false hm]
        refine iteF ?_
        rw [decide_eq_false (fun z : m = m2 ∧ n = w2 => hm z.1)] at q
        exact q
    · obtain ⟨a, ws, rfl, hs, hp⟩ := id hu
      refine ⟨_, rfl, .ref a, .ref T.C_Grid, _, _, false, rfl, .own _, row_ty hs, ?_, false, rfl, ?_⟩
      · show (if (Value.type "tuple" == Value.ref T.C_Grid) = true then some true else if ((PySem.W.clsIn K T.C_Grid).isSome && PySem.W.typeIn K (.ref T.C_Grid) == some (.type "type")) = true then PySem.W.subIn K (.type "tuple") (.ref T.C_Grid) else none) = some false
        have e2 : ((PySem.W.clsIn K T.C_Grid).isSome && PySem.W.typeIn K (.ref T.C_Grid) == some (.type "type")) = true := by
          have e := T.ic_Grid
          have e' : (PySem.W.clsIn K T.C_Grid).isSome = true := e
          rw [e', T.ty_Grid] <;> rfl
        rw [if_neg (by simp), if_pos e2]
        exact tup_not
      exact iteF q
/-! ### stacked -/

end
end K14
namespace K14
open PySem PySem.Spec PyProof.Rows L2 Gm
open C8 (Cal Met Mak pe_c pe_mt pe_mt0 pe_mk)
section
variable {P : Program} {w : World} {K : PySem.W.Frag} {mg : Str → Option Value} {base : Heap}
def sp_check_same_size (K : PySem.W.Frag) (C : Addr) : Sp := fun vs H Q _ => ∃ v m w u m2, vs = [v, u] ∧ IsGrid K C H v m w ∧ IsGrid K C H u m2 w ∧ m.length = m2.length ∧ Q .non H
theorem ok_check_same_size (T : Top K mg) (hN : base.NoSeer) (hT : P.given.tree = none) : FnOk P w K mg base CX0 1 T.a_check_same_size T.d_check_same_size ["a", "b"] (sp_check_same_size K T.C_Grid) := by
  refine T.F_check_same_size.ok sc_check_same_size (fun vs H Q E h => ?_) (fun cdv A outer s H vs Q E hr h => ?_)
  · obtain ⟨v, m, w, u, m2, rfl, _⟩ := h
    rfl
  · obtain ⟨v, m, n, u, m2, rfl, G, G2, hl, q⟩ := h
    obtain ⟨⟨p, dx, t, rfl, ho, ⟨a, ws, rfl, hs, hp⟩⟩, hrw⟩ := id G
    obtain ⟨⟨p2, dx2, t2, rfl, ho2, ⟨a2, ws2, rfl, hs2, hp2⟩⟩, hrw2⟩ := id G2
    have lw := Paired.length hp
    have lw2 := Paired.length hp2
    refine ⟨_, (pss_one (ps_if (PW.pt (pw_or (pt_cmpR op_ne (pe_callB (lenS K rfl) (by rfl) T.z_len (by decide +kernel) (pa_cons (fldK K rfl (pv 0) rfl) pa_nil)) (pe_callB (lenS K rfl) (by rfl) T.z_len (by decide +kernel) (pa_cons (fldK K rfl (pv 1) rfl) pa_nil)) (nomark _)) (pw_or1 (pt_cmpR op_ne (fldK K rfl (pv 0) rfl) (fldK K rfl (pv 1) rfl) (nomark _)))))
      (pss_one ps_never)
      pss_nil)), ?_⟩
    refine ⟨_, rfl, p, T.C_Grid, dx, _, _, rfl, ho, T.cl_Grid, T.n_rows, flds_rows _ _, a, ws, rfl, .inr hs, _, rfl, p2, T.C_Grid, dx2, _, _, rfl, ho2, T.cl_Grid, T.n_rows, flds_rows _ _, a2, ws2, rfl, .inr hs2, rfl, _, rfl, ?_⟩
    rw [lw, lw2, hl, decide_eq_true rfl]
    refine iteF ?_
    refine ⟨_, rfl, p, T.C_Grid, dx, _, _, rfl, ho, T.cl_Grid, T.n_width, flds_width _ _, _, rfl, p2, T.C_Grid, dx2, _, _, rfl, ho2, T.cl_Grid, T.n_width, flds_width _ _, rfl, _, rfl, ?_⟩
    rw [decide_eq_true rfl]
    exact iteF q
theorem cal_check_same_size (T : Top K mg) (hN : base.NoSeer) (hT : P.given.tree = none) : Cal P w K mg base 1 "check_same_size" (sp_check_same_size K T.C_Grid) [] := ⟨⟨_, _, _, [], ok_check_same_size T hN hT, T.g_check_same_size, T.F_check_same_size.kp, T.b_check_same_size, .nil⟩⟩

end
end K14
namespace K14
open PySem PySem.Spec PyProof.Rows L2 Gm
open C8 (Cal Met Mak pe_c pe_mt pe_mt0 pe_mk)
section
variable {P : Program} {w : World} {K : PySem.W.Frag} {mg : Str → Option Value} {base : Heap}
/-! ### sums -/
def zipM (f : Int → Int → Int) (m1 m2 : List (List Int)) : List (List Int) := List.zipWith (List.zipWith f) m1 m2
theorem zipM_row {f : Int → Int → Int} {m1 m2 : List (List Int)} {w : Nat} (h1 : ∀ r ∈ m1, r.length = w) (h2 : ∀ r ∈ m2, r.length = w) : ∀ r ∈ zipM f m1 m2, r.length = w := fun r hr => by
  obtain ⟨k, hk⟩ := List.getElem?_of_mem hr
  unfold zipM at hk
  rw [List.getElem?_zipWith] at hk
  cases e1 : m1[k]? with
  | none => rw [e1] at hk; cases hk
  | some a =>
    cases e2 : m2[k]? with
    | none => rw [e1, e2] at hk; cases hk
    | some b =>
      rw [e1, e2] at hk
      rw [← Option.some.inj hk, List.length_zipWith, h1 a (List.mem_of_getElem? e1), h2 b (List.mem_of_getElem? e2), Nat.min_self]
/-! ### a + b -/
def sp_Grid_sub (K : PySem.W.Frag) (C : Addr) : Sp := fun vs H Q _ => ∃ v m w u m2, vs = [v, u] ∧ IsGrid K C H v m w ∧ IsGrid K C H u m2 w ∧ m.length = m2.length ∧ m.length ≤ 1000 ∧ w ≤ 1000 ∧ ∀ g H', Same H H' → IsGrid K C H' g (zipM (fun x y => x - y) m m2) w → Q g H'
theorem ok_Grid_sub (T : Top K mg) (hN : base.NoSeer) (hT : P.given.tree = none) : FnOk P w K mg base CX0 5 T.a_Grid_sub T.d_Grid_sub ["self", "other"] (sp_Grid_sub K T.C_Grid) := by
  refine T.F_Grid_sub.ok sc_Grid_sub (fun vs H Q E h => ?_) (fun cdv A outer s H vs Q E hr h => ?_)
  · obtain ⟨v, m, w, u, m2, rfl, _⟩ := h
    rfl
  · obtain ⟨v, m, n, u, m2, rfl, G, G2, hlm, hl, hw, q⟩ := h
    obtain ⟨⟨p, dx, t, rfl, ho, ⟨a, ws, rfl, hs, hp⟩⟩, hrw⟩ := id G
    obtain ⟨⟨p2, dx2, t2, rfl, ho2, ⟨a2, ws2, rfl, hs2, hp2⟩⟩, hrw2⟩ := id G2
    have lw := Paired.length hp
    have lw2 := Paired.length hp2
    refine ⟨_, (pss_cons (ps_if (pt_not (pt_val (pe_callB (isiK K rfl) (by rfl) T.z_isinstance (by decide +kernel) (pa_cons (pv 1) (pa_cons (pe_glob (by rfl) T.g_Grid (show RelV (.ref T.C_Grid) _ from rfl)) pa_nil)))))
      (pss_one ps_never)
      pss_nil)
      (pss_cons (ps_expr (pe_c (cal_check_same_size T hN hT) hr (by decide) (by rfl) (pa_cons (pv 0) (pa_cons (pv 1) pa_nil))))
      (pss_cons (ps_set (i := 2) sc_Grid_sub.nd rfl (by first | exact .inl rfl | exact .inr rfl) (pe_listZip rfl (by rfl) T.z_list (by rfl) T.z_zip (pa_cons (fldK K rfl (pv 0) rfl) (pa_cons (fldK K rfl (pv 1) rfl) pa_nil))))
      (pss_one (ps_ret (pe_mk (mak_Grid T hN hT) hr (by decide) (by rfl) (pa_cons (pe_lc (own := [("one", 3), ("two", 4)]) (g := (gTup K 2 (gCons (gName 3) (gCons (gName 4) gNil)))) (by rfl) sc_Grid_sub.nd (piS K rfl (pv 2)) ((by show BlkOk ["self", "other", "pairs", "one", "two", "x", "y"] (defScope s_Grid_sub) _ _; exact blkOk_by (by decide +kernel))) (fun _ _ _ _ _ => (pg_tup rfl (pgs_cons (pg_name (i := 3) sc_Grid_sub.nd rfl (by first | exact .inl rfl | exact .inr rfl)) (pgs_cons (pg_name (i := 4) sc_Grid_sub.nd rfl (by first | exact .inl rfl | exact .inr rfl)) pgs_nil)))) (fun _ _ _ _ _ => pts_nil) (fun _ _ _ _ _ => (pe_lc (own := [("x", 5), ("y", 6)]) (g := (gTup K 2 (gCons (gName 5) (gCons (gName 6) gNil)))) (by rfl) sc_Grid_sub.nd (piZipT K rfl (by rfl) T.z_zip (pa_cons (pv 3) (pa_cons (pv 4) pa_nil)) (fun _ _ _ _ f h => let ⟨v, e, u, e2, h⟩ := h; ⟨v, e, u, e2, f _ _ h⟩)) ((by show BlkOk ["self", "other", "pairs", "one", "two", "x", "y"] (relS _ (defScope s_Grid_sub)) _ _; exact blkOk_by (by decide +kernel))) (fun _ _ _ _ _ => (pg_tup rfl (pgs_cons (pg_name (i := 5) sc_Grid_sub.nd rfl (by first | exact .inl rfl | exact .inr rfl)) (pgs_cons (pg_name (i := 6) sc_Grid_sub.nd rfl (by first | exact .inl rfl | exact .inr rfl)) pgs_nil)))) (fun _ _ _ _ _ => pts_nil) (fun _ _ _ _ _ => (pe_op op_sub (pv 5) (pv 6)))))) (pa_cons (fldK K rfl (pv 0) rfl) pa_nil)))))))), ?_⟩
    refine ⟨_, rfl, .ref p2, .ref T.C_Grid, _, _, true, rfl, .own _, .base (.ins ho2 T.cl_Grid T.kc_Grid T.kg_Grid T.kt_Grid T.km_Grid), ?_, true, rfl, ?_⟩
    · unfold PySem.W.kitOne
      rw [if_pos (beq_self_eq_true _)]
    refine iteF ?_
    refine ⟨_, rfl, _, rfl, .ref p, m, n, .ref p2, m2, rfl, G, G2, hlm, ?_⟩
    -- pairs = list(zip(self.rows, other.rows))
    refine ⟨_, rfl, p, T.C_Grid, dx, _, _, rfl, ho, T.cl_Grid, T.n_rows, flds_rows _ _, _, rfl, p2, T.C_Grid, dx2, _, _, rfl, ho2, T.cl_Grid, T.n_rows, flds_rows _ _, ?_⟩
    refine ⟨a, a2, ws, ws2, rfl, hs, hs2, by omega, fun H1 pr ts s1 npr _ epr lts hts => ?_⟩
    -- the outer comprehension
    refine ⟨_, rfl, pr, _, rfl, .inl (.inl (.inl epr)), fun J G0 W hG D hD => ?_⟩
    have hPD : pr ≠ D := ne_of_none epr hD
    refine lc_all W hD (by rw [List.length_map]; omega) (fun H4 s4 => hG H4 fun b _ o => s4 b o) (fun i v H4 => ∃ p, v = V.ref p ∧ p ≠ D ∧ H4 p = some (.lst (((zipM (fun x y => x - y) m m2).getD i []).map V.int))) lists_mono ?_ gm_pair ?_
    · rintro i x H4 H4' acc Ko hi s4 eD ⟨rfl, ex⟩ k
      rw [List.length_map] at hi
      obtain ⟨tj, etj, rfl⟩ : ∃ tj, ts[i]? = some tj ∧ x = V.ref tj := by
        rw [List.getElem?_map] at ex
        obtain ⟨tj, e1, e2⟩ := Option.map_eq_some_iff.mp ex
        exact ⟨tj, e1, e2.symm⟩
      obtain ⟨x1, x2, ex1, ex2, et⟩ := hts i tj etj
      obtain ⟨r, er, b, rfl, hb⟩ := Paired.getR hp ex1
      obtain ⟨r2, er2, b2, rfl, hb2⟩ := Paired.getR hp2 ex2
      have hrl := hrw r (List.mem_of_getElem? er)
      have hrl2 := hrw2 r2 (List.mem_of_getElem? er2)
      have sm := s1.trans s4
      have eg : (zipM (fun x y => x - y) m m2).getD i [] = List.zipWith (fun x y => x - y) r r2 := by
        unfold zipM
        rw [List.getD_eq_getElem?_getD, List.getElem?_zipWith, er, er2]
        rfl
      refine ⟨tj, [.ref b, .ref b2], rfl, .inl (.inl (s4 _ _ et)), rfl, .ref b, [.ref b2], rfl, .ref b2, [], rfl, rfl, ?_⟩
      refine ⟨rfl, ?_⟩
      -- the inner one
      have hb4 := Same.seqT sm hb
      have hb24 := Same.seqT sm hb2
      refine ⟨_, rfl, _, rfl, b, b2, _, _, rfl, hb4, hb24, fun D2 hD2 => ?_⟩
      have W2 : Walk (RZ.ItzT K b b2) n (fun H => SqT K H b (r.map V.int) ∧ SqT K H b2 (r2.map V.int)) (YPair (fun i => (r.map V.int)[i]?) (fun i => (r2.map V.int)[i]?)) := walk_zipT (by rw [List.length_map, List.length_map, hrl, hrl2, Nat.min_self])
      refine lc_all W2 hD2 hw (fun H5 s5 => ⟨Same.seqT s5 hb4, Same.seqT s5 hb24⟩) (fun j v _ => ∃ z, ((zipM (fun x y => x - y) m m2).getD i [])[j]? = some z ∧ v = .int z) (fun _ _ _ _ _ _ _ h => h) ?_ gm_pair ?_
      · rintro j y H5 H5' acc2 Ko2 hj s5 eD2 ⟨U, y1, y2, rfl, nU, rfl, f1, f2⟩ k2
        obtain ⟨z1, ez1, rfl⟩ := ints_get f1
        obtain ⟨z2, ez2, rfl⟩ := ints_get f2
        refine g_pair nU ⟨rfl, ?_⟩
        refine ⟨_, rfl, _, rfl, _, _, rfl, rfl, ?_⟩
        refine k2 _ _ (same_upd nU) ⟨z1 - z2, ?_, rfl⟩
        rw [eg, List.getElem?_zipWith, ez1, ez2]
      · intro H5 l s5 eD2 hpl
        have el := ints_list (by rw [eg, List.length_zipWith, hrl, hrl2, Nat.min_self]) hpl
        refine k _ _ s5 ⟨D2, rfl, ?_, by rw [← el]; exact eD2⟩
        rintro rfl
        rw [eD] at hD2
        cases hD2
    · intro H4 l s4 eD hpl
      have hrows := lists_rows (K := K) (m := zipM (fun x y => x - y) m m2) (by unfold zipM; rw [List.length_map, List.length_zipWith, lts]; omega) eD hpl
      have sm := s1.trans s4
      refine ⟨_, rfl, p, T.C_Grid, dx, _, _, rfl, sm _ _ ho, T.cl_Grid, T.n_width, flds_width _ _, ?_⟩
      exact make_grid hrows (by unfold zipM; rw [List.length_zipWith]; omega) hw (zipM_row hrw hrw2) fun g H' s' G' => q g H' (sm.trans s') G'

end
end K14
namespace K14
open PySem PySem.Spec PyProof.Rows L2 Gm
open C8 (Cal Met Mak pe_c pe_mt pe_mt0 pe_mk)
section
variable {P : Program} {w : World} {K : PySem.W.Frag} {mg : Str → Option Value} {base : Heap}
/-! ### the law's numbers -/
/-- a list of whole numbers -/
def NumAt (H : Hp) (p : Addr) : Prop := ∃ ns : List Int, H p = some (.lst (ns.map V.int)) ∧ ns.length ≤ 4000
theorem NumAt.same {H H' : Hp} {p : Addr} (s : Same H H') (h : NumAt H p) : NumAt H' p := let ⟨a, e, l⟩ := h; ⟨a, s _ _ e, l⟩
theorem NumAt.ref {H : Hp} {p : Addr} (h : NumAt H p) : ∃ l, H p = some (.lst l) := let ⟨_, e, _⟩ := h; ⟨_, e⟩
theorem off_refl {p : Addr} {H : Hp} : Off p H H := fun _ _ _ e => e
theorem small4000 {n : Nat} (h : n ≤ 4000) : n < sizeLine := Nat.lt_of_le_of_lt h (by decide)
def sp_law_next : Sp := fun vs H Q _ => ∃ (p : Addr) (m : Nat), vs = [.ref p, .int m] ∧ NumAt H p ∧ 0 < m ∧ ∀ (r : Nat) H', r < m → Off p H H' → NumAt H' p → Q (.int r) H'
theorem ok_law_next (T : Top K mg) (hN : base.NoSeer) (hT : P.given.tree = none) : FnOk P w K mg base CX0 1 T.a_law_next T.d_law_next ["numbers", "many"] sp_law_next := by
  refine T.F_law_next.ok sc_law_next (fun vs H Q E h => ?_) (fun cdv A outer s H vs Q E hr h => ?_)
  · obtain ⟨p, m, rfl, _⟩ := h
    rfl
  · obtain ⟨p, m, rfl, ⟨ns, e, hl⟩, hm, q⟩ := h
    refine ⟨_, (pss_cons (ps_if (pt_cmpR op_eq (pe_callB (lenS K rfl) (by rfl) T.z_len (by decide +kernel) (pa_cons (pv 0) pa_nil)) pe_int (nomark _))
      (pss_one (ps_ret pe_int))
      pss_nil)
      (pss_one (ps_ret (pe_op op_mod (pe_bm PySem.F.plainAttrs_list PySem.F.slot_list_pop PySem.F.type_list_pop mt_popAt (pv 0) (pa_cons pe_int pa_nil)) (pv 1))))), ?_⟩
    refine ⟨_, rfl, p, _, rfl, .inl (.inl (.inl e)), rfl, _, rfl, ?_⟩
    cases ns with
    | nil =>
      rw [show decide (V.int (([] : List Int).map V.int).length = V.int 0) = true from rfl]
      refine iteT ?_
      exact q 0 H hm off_refl ⟨[], e, by decide⟩
    | cons z zs =>
      rw [show decide (V.int (((z :: zs).map V.int).length : Int) = V.int 0) = false from decide_eq_false fun h => by
        have := V.int.inj h
        rw [List.length_map, List.length_cons] at this
        omega]
      refine iteF ?_
      have hi : seqIndex? 0 ((z :: zs).map V.int).length = some 0 := by
        rw [List.length_map, List.length_cons]
        unfold seqIndex?
        simp
        try omega
      refine ⟨_, rfl, .inl ⟨rfl, _, .inl (.inl e)⟩, p, _, 0, 0, .int z, rfl, rfl, e, by decide, by decide, hi, rfl, ?_⟩
      refine ⟨_, rfl, z, (m : Int), rfl, rfl, by show (0 : Int) < m; omega, ?_⟩
      have hz : (z % (m : Int)) = ((z % (m : Int)).toNat : Int) := by
        have := Int.emod_nonneg z (show (m : Int) ≠ 0 by omega)
        omega
      show Q (V.int (z % (m : Int))) _
      rw [hz]
      refine q _ _ ?_ Off.upd ⟨zs, by rw [upd_same]; rfl, by rw [List.length_cons] at hl; omega⟩
      have := Int.emod_lt_of_pos z (show (0 : Int) < m by omega)
      omega
theorem cal_law_next (T : Top K mg) (hN : base.NoSeer) (hT : P.given.tree = none) : Cal P w K mg base 1 "_law_next" sp_law_next [] := ⟨⟨_, _, _, [], ok_law_next T hN hT, T.g_law_next, T.F_law_next.kp, T.b_law_next, .nil⟩⟩
def sp_law_numbers (K : PySem.W.Frag) : Sp := fun vs H Q _ => ∃ (a : Addr) (ns : List Int), vs = [.ref a] ∧ SqL K H a (ns.map V.int) ∧ ns.length ≤ 63 ∧ ∀ p H', Same H H' → H p = none → NumAt H' p → Q (.ref p) H'
theorem ok_law_numbers (T : Top K mg) (hN : base.NoSeer) (hT : P.given.tree = none) : FnOk P w K mg base CX0 1 T.a_law_numbers T.d_law_numbers ["script"] (sp_law_numbers K) := by
  refine T.F_law_numbers.ok sc_law_numbers (fun vs H Q E h => ?_) (fun cdv A outer s H vs Q E hr h => ?_)
  · obtain ⟨a, ns, rfl, _⟩ := h
    rfl
  · obtain ⟨a, ns, rfl, hs, hl, q⟩ := h
    refine ⟨_, (pss_cons (ps_set (i := 1) sc_law_numbers.nd rfl (by first | exact .inl rfl | exact .inr rfl) (pe_lst pa_nil))
      (pss_cons (ps_for PassesOwn.never rfl (pi_range1 (by rfl) T.z_range (pa_cons (pe_callB (call_min2 rfl) (by rfl) T.z_min (by decide +kernel) (pa_cons (pe_callB (lenS K rfl) (by rfl) T.z_len (by decide +kernel) (pa_cons (pv 0) pa_nil)) (pa_cons pe_int pa_nil))) pa_nil)) (pg_name (i := 2) sc_law_numbers.nd rfl (by first | exact .inl rfl | exact .inr rfl))
      (pss_cons (ps_set (i := 3) sc_law_numbers.nd rfl (by first | exact .inl rfl | exact .inr rfl) (pe_callB (call_abs) (by rfl) T.z_abs (by decide +kernel) (pa_cons (pe_ix (ixL K rfl) (pv 0) (pv 2) (fun _ _ => rfl)) pa_nil)))
      (pss_one (ps_if (pt_cmpR op_ge (pv 3) (pe_op op_pow pe_int pe_int) (nomark _))
      (pss_one (ps_for PassesOwn.never rfl (pi_range1 (by rfl) T.z_range (pa_cons pe_int pa_nil)) (pg_name (i := 4) sc_law_numbers.nd rfl (by first | exact .inl rfl | exact .inr rfl))
      (pss_one (ps_if (pt_cmpR op_gt (pv 3) pe_int (nomark _))
      (pss_cons (ps_expr (pe_bm PySem.F.plainAttrs_list PySem.F.slot_list_append PySem.F.type_list_append mt_append (pv 1) (pa_cons (pe_op op_mod (pv 3) pe_int) pa_nil)))
      (pss_one (ps_set (i := 3) sc_law_numbers.nd rfl (by first | exact .inl rfl | exact .inr rfl) (pe_op op_fdiv (pv 3) pe_int))))
      pss_nil))))
      (pss_one (ps_for PassesOwn.never rfl (pi_range1 (by rfl) T.z_range (pa_cons pe_int pa_nil)) (pg_name (i := 5) sc_law_numbers.nd rfl (by first | exact .inl rfl | exact .inr rfl))
      (pss_cons (ps_set (i := 3) sc_law_numbers.nd rfl (by first | exact .inl rfl | exact .inr rfl) (pe_op op_mod (pe_op op_add (pe_op op_add (pe_op op_mul (pv 3) pe_int) (pe_op op_mul pe_int (pe_op op_add (pv 5) (pv 2)))) pe_int) pe_int))
      (pss_cons (ps_set (i := 6) sc_law_numbers.nd rfl (by first | exact .inl rfl | exact .inr rfl) (pe_op op_mod (pe_op op_add (pe_op op_mul (pv 3) pe_int) (pe_op op_fdiv (pv 3) pe_int)) pe_int))
      (pss_one (ps_expr (pe_bm PySem.F.plainAttrs_list PySem.F.slot_list_append PySem.F.type_list_append mt_append (pv 1) (pa_cons (pe_op op_mod (pv 6) pe_int) pa_nil))))))))))))
      (pss_one (ps_ret (pv 1))))), ?_⟩
    refine ⟨by show 0 ≤ sizeLine; decide, fun R nR => ?_⟩
    have haR : ∀ {b o}, H b = some o → b ≠ R := fun e => ne_of_none e nR
    refine ⟨_, rfl, a, _, rfl, .inl (Same.seq (same_upd nR) hs), _, 63, rfl, (if (63 : Int) < ((ns.map V.int).length : Int) then 63 else ((ns.map V.int).length : Int)), rfl, by split <;> omega, by split <;> omega, ?_⟩
    obtain ⟨n, hn, hn63⟩ : ∃ n : Nat, (if (63 : Int) < ((ns.map V.int).length : Int) then (63 : Int) else ((ns.map V.int).length : Int)) = (n : Int) ∧ n ≤ ns.length := by
      refine ⟨ns.length, ?_, Nat.le_refl _⟩
      rw [List.length_map, if_neg (by omega)]
    rw [hn, Int.toNat_natCast]
    refine for_it walk_range (fun i σ H2 => ∃ y2 y3 y4 y5 y6, σ = [some (.ref a), some (.ref R), y2, y3, y4, y5, y6] ∧ Same H H2 ∧ ∃ l : List Int, H2 R = some (.lst (l.map V.int)) ∧ l.length ≤ 60 * i) ⟨_, _, _, _, _, rfl, same_upd nR, [], upd_same, by simp⟩ (fun _ _ _ _ _ => trivial) ?_ ?_
    · rintro i zz σ H2 H2' hi ⟨y2, y3, y4, y5, y6, rfl, s2, l, eR, hlen⟩ ⟨rfl, rfl⟩
      obtain ⟨z, ez⟩ : ∃ z, ns[i]? = some z := ⟨_, List.getElem?_eq_getElem (by omega)⟩
      refine ⟨_, rfl, _, rfl, a, _, _, _, rfl, rfl, Same.seq s2 hs, at_of (j := i) (by omega) (ints_at ez), z, rfl, ?_⟩
      obtain ⟨c, hc, hc0⟩ : ∃ c : Int, (if z < 0 then -z else z) = c ∧ 0 ≤ c := ⟨_, rfl, by split <;> omega⟩
      rw [hc]
      have p18 : ((10 : Int) ^ (18 : Int).toNat) = 1000000000000000000 := by decide
      refine ⟨_, rfl, 10, 18, rfl, rfl, ⟨by decide, by decide, by decide⟩, _, _, rfl, rfl, _, rfl, ?_⟩
      by_cases hbig : ((10 : Int) ^ (18 : Int).toNat) ≤ c
      · rw [decide_eq_true hbig]
        refine iteT ?_
        refine ⟨60, rfl, by decide, by decide, ?_⟩
        refine for_it walk_range (fun j σ H3 => ∃ (c : Int) (y4 y5 y6 : Option V), σ = [some (.ref a), some (.ref R), some (.int (0 + (i : Int))), some (.int c), y4, y5, y6] ∧ Same H H3 ∧ ∃ l : List Int, H3 R = some (.lst (l.map V.int)) ∧ l.length ≤ 60 * i + j) ⟨c, _, _, _, rfl, s2, l, eR, by omega⟩ (fun _ _ _ _ _ => trivial) ?_ ?_
        · rintro j zz σ H3 H3' hj ⟨c, y4, y5, y6, rfl, s3, l, eR, hlen⟩ ⟨rfl, rfl⟩
          have hj' : j < 60 := hj
          refine ⟨_, rfl, _, _, rfl, rfl, _, rfl, ?_⟩
          by_cases h0 : 0 < c
          · rw [decide_eq_true h0]
            refine iteT ?_
            refine ⟨_, rfl, .inl ⟨rfl, _, .inl (.inl eR)⟩, _, rfl, c, 1009, rfl, rfl, by show (0 : Int) < 1009; decide, R, _, _, rfl, rfl, eR, small4000 (by rw [List.length_map]; omega), ?_⟩
            refine ⟨_, rfl, c, 1009, rfl, rfl, ⟨by decide, by decide⟩, ?_⟩
            refine ⟨_, _, _, _, rfl, fun b o e => ?_, l ++ [c % 1009], ?_, by rw [List.length_append, List.length_singleton]; omega⟩
            · rw [upd_ne (haR e)]
              exact s3 _ _ e
            · rw [upd_same, List.map_append]
              rfl
          · rw [decide_eq_false h0]
            refine iteF ?_
            exact ⟨_, _, _, _, rfl, s3, l, eR, by omega⟩
        · rintro σ H3 ⟨c, y4, y5, y6, rfl, s3, l, eR, hlen⟩
          have hlen' : l.length ≤ 60 * i + 60 := hlen
          exact ⟨_, _, _, _, _, rfl, s3, l, eR, by omega⟩
      · rw [decide_eq_false hbig]
        rw [p18] at hbig
        refine iteF ?_
        refine ⟨5, rfl, by decide, by decide, ?_⟩
        refine for_it walk_range (fun j σ H3 => ∃ (c : Int) (y4 y5 y6 : Option V), σ = [some (.ref a), some (.ref R), some (.int (0 + (i : Int))), some (.int c), y4, y5, y6] ∧ 0 ≤ c ∧ c < 1000000000000000000 ∧ Same H H3 ∧ ∃ l : List Int, H3 R = some (.lst (l.map V.int)) ∧ l.length ≤ 60 * i + j) ⟨c, _, _, _, rfl, hc0, by omega, s2, l, eR, by omega⟩ (fun _ _ _ _ _ => trivial) ?_ ?_
        · rintro j zz σ H3 H3' hj ⟨c, y4, y5, y6, rfl, hc0, hc1, s3, l, eR, hlen⟩ ⟨rfl, rfl⟩
          have hj' : j < 5 := hj
          refine ⟨_, rfl, c, 48271, rfl, rfl, .inl ⟨by omega, by omega⟩, ?_⟩
          refine ⟨_, rfl, _, rfl, _, _, rfl, rfl, 69621, _, rfl, rfl, .inl ⟨by decide, by decide⟩, ?_⟩
          refine ⟨_, _, rfl, rfl, _, _, rfl, rfl, _, 2147483647, rfl, rfl, by show (0 : Int) < 2147483647; decide, ?_⟩
          obtain ⟨c1, hc1e, hc10, hc11⟩ : ∃ c1 : Int, (c * 48271 + 69621 * (0 + (j : Int) + (0 + (i : Int))) + 11) % 2147483647 = c1 ∧ 0 ≤ c1 ∧ c1 < 2147483647 := ⟨_, rfl, Int.emod_nonneg _ (by decide), Int.emod_lt_of_pos _ (by decide)⟩
          dsimp only
          rw [hc1e]
          refine ⟨_, rfl, c1, 16807, rfl, rfl, .inl ⟨by omega, by omega⟩, _, rfl, c1, 65536, rfl, rfl, ⟨by decide, by decide⟩, _, _, rfl, rfl, _, 2147483629, rfl, rfl, by show (0 : Int) < 2147483629; decide, ?_⟩
          refine ⟨_, rfl, .inl ⟨rfl, _, .inl (.inl eR)⟩, _, rfl, _, 1009, rfl, rfl, by show (0 : Int) < 1009; decide, R, _, _, rfl, rfl, eR, small4000 (by rw [List.length_map]; omega), ?_⟩
          refine ⟨c1, _, _, _, rfl, hc10, by omega, fun b o e => ?_, l ++ [(c1 * 16807 + c1 / 65536) % 2147483629 % 1009], ?_, by rw [List.length_append, List.length_singleton]; omega⟩
          · rw [upd_ne (haR e)]
            exact s3 _ _ e
          · rw [upd_same, List.map_append]
            rfl
        · rintro σ H3 ⟨c, y4, y5, y6, rfl, hc0, hc1, s3, l, eR, hlen⟩
          have hlen' : l.length ≤ 60 * i + 5 := hlen
          exact ⟨_, _, _, _, _, rfl, s3, l, eR, by omega⟩
    · rintro σ H2 ⟨y2, y3, y4, y5, y6, rfl, s2, l, eR, hlen⟩
      exact ⟨_, rfl, q R H2 s2 nR ⟨l, eR, by omega⟩⟩
theorem cal_law_numbers (T : Top K mg) (hN : base.NoSeer) (hT : P.given.tree = none) : Cal P w K mg base 1 "_law_numbers" (sp_law_numbers K) [] := ⟨⟨_, _, _, [], ok_law_numbers T hN hT, T.g_law_numbers, T.F_law_numbers.kp, T.b_law_numbers, .nil⟩⟩

end
end K14
namespace K14
open PySem PySem.Spec PyProof.Rows L2 Gm
open C8 (Cal Met Mak pe_c pe_mt pe_mt0 pe_mk)
section
variable {P : Program} {w : World} {K : PySem.W.Frag} {mg : Str → Option Value} {base : Heap}
/-! ### _law_determinant -/
def detT (n : Nat) (f : List (List Int) → Int) (m : List (List Int)) (k : Nat) : Int := (1 - 2 * ((k : Int) % 2)) * (m.headD []).getD k 0 * f (m.tail.map fun r => r.eraseIdx k)
/-- the law's determinant, by the first row -/
def detL : Nat → List (List Int) → Int
  | 0, _ => 1
  | n + 1, m => ((List.range (n + 1)).map (detT n (detL n) m)).sum
theorem sq_tail {n B : Nat} {m : List (List Int)} (h : Sq (n + 1) B m) {k : Nat} (hk : k < n + 1) : Sq n B (m.tail.map fun r => r.eraseIdx k) := by
  refine ⟨by rw [List.length_map, List.length_tail, h.len]; rfl, fun r hr => ?_, fun r hr => ?_⟩
  · obtain ⟨r', hr', rfl⟩ := List.mem_map.mp hr
    have := h.row r' (List.mem_of_mem_tail hr')
    rw [List.length_eraseIdx_of_lt (by omega), this]
    rfl
  · obtain ⟨r', hr', rfl⟩ := List.mem_map.mp hr
    exact fun x hx => h.bits r' (List.mem_of_mem_tail hr') x (List.mem_of_mem_eraseIdx hx)
theorem sum_le {b : Nat} : ∀ {l : List Int}, (∀ x ∈ l, x.natAbs ≤ b) → l.sum.natAbs ≤ l.length * b
  | [], _ => by simp
  | x :: l, h => by
    have h1 := h x (List.mem_cons_self ..)
    have h2 := sum_le fun y hy => h y (List.mem_cons_of_mem _ hy)
    rw [List.sum_cons, List.length_cons, Nat.succ_mul]
    omega
theorem detT_le {n B c : Nat} {f : List (List Int) → Int} {m : List (List Int)} (h : Sq (n + 1) B m) {k : Nat} (hk : k < n + 1) (hf : (f (m.tail.map fun r => r.eraseIdx k)).natAbs < 2 ^ c) : (detT n f m k).natAbs ≤ 2 ^ B * 2 ^ c := by
  have h0 : ((m.headD []).getD k 0).natAbs < 2 ^ B := by
    cases m with
    | nil => exact absurd h.len (by simp)
    | cons r m =>
      have hr := h.row r (List.mem_cons_self ..)
      have hk' : k < r.length := by omega
      show (r.getD k 0).natAbs < 2 ^ B
      rw [List.getD_eq_getElem?_getD, List.getElem?_eq_getElem hk']
      exact h.bits r (List.mem_cons_self ..) _ (List.getElem_mem hk')
  have h1 : (1 - 2 * ((k : Int) % 2)).natAbs = 1 := by omega
  unfold detT
  rw [Int.natAbs_mul, Int.natAbs_mul, h1, Nat.one_mul]
  exact Nat.mul_le_mul (Nat.le_of_lt h0) (Nat.le_of_lt hf)
theorem detL_le {B : Nat} : ∀ {n : Nat} {m : List (List Int)}, n ≤ 10 → Sq n B m → (detL n m).natAbs < 2 ^ (n * (B + 8) + 1)
  | 0, m, _, _ => by
    show (1 : Int).natAbs < 2 ^ (0 * (B + 8) + 1)
    rw [Nat.zero_mul]
    decide
  | n + 1, m, hn, h => by
    have hs : (detL (n + 1) m).natAbs ≤ ((List.range (n + 1)).map (detT n (detL n) m)).length * (2 ^ B * 2 ^ (n * (B + 8) + 1)) := by
      refine sum_le fun x hx => ?_
      obtain ⟨k, hk, rfl⟩ := List.mem_map.mp hx
      have hk' := List.mem_range.mp hk
      exact detT_le h hk' (detL_le (by omega) (sq_tail h hk'))
    rw [List.length_map, List.length_range, ← Nat.pow_add] at hs
    have h2 : n + 1 < 2 ^ 8 := by have : (2 : Nat) ^ 8 = 256 := rfl; omega
    have h3 : (n + 1) * 2 ^ (B + (n * (B + 8) + 1)) < 2 ^ 8 * 2 ^ (B + (n * (B + 8) + 1)) := (Nat.mul_lt_mul_right (Nat.two_pow_pos _)).mpr h2
    rw [← Nat.pow_add] at h3
    have e : 8 + (B + (n * (B + 8) + 1)) = (n + 1) * (B + 8) + 1 := by rw [Nat.succ_mul]; omega
    rw [e] at h3
    omega

end
end K14
namespace K14
open PySem PySem.Spec PyProof.Rows L2 Gm
open C8 (Cal Met Mak pe_c pe_mt pe_mt0 pe_mk)
section
variable {P : Program} {w : World} {K : PySem.W.Frag} {mg : Str → Option Value} {base : Heap}
/-! ### the determinant up to size 4 -/
theorem row1 {r : List Int} (h : r.length = 1) : ∃ a, r = [a] := by
  match r, h with
  | [a], _ => exact ⟨a, rfl⟩
theorem row2 {r : List Int} (h : r.length = 2) : ∃ a b, r = [a, b] := by
  match r, h with
  | [a, b], _ => exact ⟨a, b, rfl⟩
theorem row3 {r : List Int} (h : r.length = 3) : ∃ a b c, r = [a, b, c] := by
  match r, h with
  | [a, b, c], _ => exact ⟨a, b, c, rfl⟩
theorem row4 {r : List Int} (h : r.length = 4) : ∃ a b c d, r = [a, b, c, d] := by
  match r, h with
  | [a, b, c, d], _ => exact ⟨a, b, c, d, rfl⟩
/-- a square matrix -/
structure Sz (n : Nat) (m : List (List Int)) : Prop where
  len : m.length = n
  row : ∀ r ∈ m, r.length = n
theorem Sq.sz {n B : Nat} {m : List (List Int)} (h : Sq n B m) : Sz n m := ⟨h.len, h.row⟩
theorem sz1 {m : List (List Int)} (h : Sz 1 m) : ∃ a, m = [[a]] := by
  obtain ⟨h1, h2⟩ := h
  match m, h1, h2 with
  | [r], _, h2 =>
    obtain ⟨a, rfl⟩ := row1 (h2 r (by simp))
    exact ⟨a, rfl⟩
theorem sz2 {m : List (List Int)} (h : Sz 2 m) : ∃ a b c d, m = [[a, b], [c, d]] := by
  obtain ⟨h1, h2⟩ := h
  match m, h1, h2 with
  | [r, t], _, h2 =>
    obtain ⟨a, b, rfl⟩ := row2 (h2 r (by simp))
    obtain ⟨c, d, rfl⟩ := row2 (h2 t (by simp))
    exact ⟨a, b, c, d, rfl⟩
theorem sz3 {m : List (List Int)} (h : Sz 3 m) : ∃ a b c d e f g k l, m = [[a, b, c], [d, e, f], [g, k, l]] := by
  obtain ⟨h1, h2⟩ := h
  match m, h1, h2 with
  | [r, t, u], _, h2 =>
    obtain ⟨a, b, c, rfl⟩ := row3 (h2 r (by simp))
    obtain ⟨d, e, f, rfl⟩ := row3 (h2 t (by simp))
    obtain ⟨g, k, l, rfl⟩ := row3 (h2 u (by simp))
    exact ⟨a, b, c, d, e, f, g, k, l, rfl⟩
theorem sz4 {m : List (List Int)} (h : Sz 4 m) : ∃ a b c d e f g k l o p q r s t u, m = [[a, b, c, d], [e, f, g, k], [l, o, p, q], [r, s, t, u]] := by
  obtain ⟨h1, h2⟩ := h
  match m, h1, h2 with
  | [r1, r2, r3, r4], _, h2 =>
    obtain ⟨a, b, c, d, rfl⟩ := row4 (h2 r1 (by simp))
    obtain ⟨e, f, g, k, rfl⟩ := row4 (h2 r2 (by simp))
    obtain ⟨l, o, p, q, rfl⟩ := row4 (h2 r3 (by simp))
    obtain ⟨r, s, t, u, rfl⟩ := row4 (h2 r4 (by simp))
    exact ⟨a, b, c, d, e, f, g, k, l, o, p, q, r, s, t, u, rfl⟩
def D2 (a b c d : Int) : Int := a * d - b * c
def D3 (a b c d e f g k l : Int) : Int := a * D2 e f k l - b * D2 d f g l + c * D2 d e g k
def D4 (a b c d e f g k l o p q r s t u : Int) : Int := a * D3 f g k o p q s t u - b * D3 e g k l p q r t u + c * D3 e f k l o q r s u - d * D3 e f g l o p r s t
theorem detL1 (a : Int) : detL 1 [[a]] = a := by
  show (1 - 2 * ((0 : Int) % 2)) * a * 1 + 0 = a
  grind
theorem detL2 (a b c d : Int) : detL 2 [[a, b], [c, d]] = D2 a b c d := by
  show (1 - 2 * ((0 : Int) % 2)) * a * detL 1 [[d]] + ((1 - 2 * ((1 : Int) % 2)) * b * detL 1 [[c]] + 0) = a * d - b * c
  rw [detL1, detL1]
  grind
theorem detL3 (a b c d e f g k l : Int) : detL 3 [[a, b, c], [d, e, f], [g, k, l]] = D3 a b c d e f g k l := by
  show (1 - 2 * ((0 : Int) % 2)) * a * detL 2 [[e, f], [k, l]] + ((1 - 2 * ((1 : Int) % 2)) * b * detL 2 [[d, f], [g, l]] + ((1 - 2 * ((2 : Int) % 2)) * c * detL 2 [[d, e], [g, k]] + 0)) = a * D2 e f k l - b * D2 d f g l + c * D2 d e g k
  rw [detL2, detL2, detL2]
  grind
theorem detL4 (a b c d e f g k l o p q r s t u : Int) : detL 4 [[a, b, c, d], [e, f, g, k], [l, o, p, q], [r, s, t, u]] = D4 a b c d e f g k l o p q r s t u := by
  show (1 - 2 * ((0 : Int) % 2)) * a * detL 3 [[f, g, k], [o, p, q], [s, t, u]] + ((1 - 2 * ((1 : Int) % 2)) * b * detL 3 [[e, g, k], [l, p, q], [r, t, u]] + ((1 - 2 * ((2 : Int) % 2)) * c * detL 3 [[e, f, k], [l, o, q], [r, s, u]] + ((1 - 2 * ((3 : Int) % 2)) * d * detL 3 [[e, f, g], [l, o, p], [r, s, t]] + 0))) = a * D3 f g k o p q s t u - b * D3 e g k l p q r t u + c * D3 e f k l o q r s u - d * D3 e f g l o p r s t
  rw [detL3, detL3, detL3, detL3]
  generalize D3 f g k o p q s t u = A
  generalize D3 e g k l p q r t u = B
  generalize D3 e f k l o q r s u = C
  generalize D3 e f g l o p r s t = D
  grind
theorem fdiv_of {x l D : Int} (hl : l ≠ 0) (h : x = l * D) : x.fdiv l = D := by
  rw [h]
  exact Int.mul_fdiv_cancel_left D hl
/-! #### the elimination -/
theorem bare1 (s l x : Int) : bare 1 s l [[x]] = s * x := by
  by_cases h : x = 0
  · subst h
    show (0 : Int) = s * 0
    rw [Int.mul_zero]
  · have e : bare 1 s l [[x]] = match (if x ≠ 0 then some 0 else none) with
      | none => 0
      | some k => bare 0 (if k % 2 = 1 then -s else s) ((([[x]] : List (List Int)).getD k []).headD 0) (((([[x]] : List (List Int)).eraseIdx k)).map fun r => clr ((([[x]] : List (List Int))).getD k []) r l) := rfl
    rw [e, if_pos h]
    rfl
theorem bare2 (s l a b c d D : Int) (hl : l ≠ 0) (h : D2 a b c d = l * D) : bare 2 s l [[a, b], [c, d]] = s * D := by
  have e : bare 2 s l [[a, b], [c, d]] = match (if a ≠ 0 then some 0 else if c ≠ 0 then some 1 else none) with
      | none => 0
      | some k => bare 1 (if k % 2 = 1 then -s else s) ((([[a, b], [c, d]] : List (List Int)).getD k []).headD 0) (((([[a, b], [c, d]] : List (List Int)).eraseIdx k)).map fun r => clr ((([[a, b], [c, d]] : List (List Int))).getD k []) r l) := rfl
  unfold D2 at h
  rw [e]
  by_cases ha : a = 0
  · rw [if_neg (fun z => z ha)]
    by_cases hc : c = 0
    · rw [if_neg (fun z => z hc)]
      have : l * D = 0 := by rw [← h, ha, hc]; grind
      rcases Int.mul_eq_zero.mp this with z | z
      · exact absurd z hl
      · rw [z, Int.mul_zero]
    · rw [if_pos hc]
      show bare 1 (-s) c [[(c * b - a * d).fdiv l]] = s * D
      rw [fdiv_of hl (show c * b - a * d = l * (-D) by grind), bare1]
      grind
  · rw [if_pos ha]
    show bare 1 s a [[(a * d - c * b).fdiv l]] = s * D
    rw [fdiv_of hl (show a * d - c * b = l * D by grind), bare1]

end
end K14
namespace K14
open PySem PySem.Spec PyProof.Rows L2 Gm
open C8 (Cal Met Mak pe_c pe_mt pe_mt0 pe_mk)
section
variable {P : Program} {w : World} {K : PySem.W.Frag} {mg : Str → Option Value} {base : Heap}
theorem chio3 (a b c d e f g k x : Int) : D2 (a * e - d * b) (a * f - d * c) (a * k - g * b) (a * x - g * c) = a * D3 a b c d e f g k x := by
  unfold D3 D2
  grind
theorem D3_swap1 (a b c d e f g k x : Int) : D3 d e f a b c g k x = -D3 a b c d e f g k x := by
  unfold D3 D2
  grind
theorem D3_swap2 (a b c d e f g k x : Int) : D3 g k x a b c d e f = D3 a b c d e f g k x := by
  unfold D3 D2
  grind
theorem D3_zero (b c e f k x : Int) : D3 0 b c 0 e f 0 k x = 0 := by
  unfold D3 D2
  grind
theorem cancel2 {l x y : Int} (hl : l ≠ 0) (h : l * l * x = l * l * y) : x = y :=
  Int.eq_of_mul_eq_mul_left (Int.mul_ne_zero hl hl) h
theorem can3 {l a D Z p1 p2 p3 p4 : Int} (hl : l ≠ 0) (t : D2 (l * p1) (l * p2) (l * p3) (l * p4) = a * Z) (hz : Z = l * l * D) : D2 p1 p2 p3 p4 = a * D := by
  refine cancel2 hl ?_
  rw [hz] at t
  unfold D2 at t ⊢
  grind
theorem bare3 (s l a b c d e f g k x D q1 q2 q3 q4 q5 q6 : Int) (hl : l ≠ 0) (h1 : D2 a b d e = l * q1) (h2 : D2 a c d f = l * q2) (h3 : D2 a b g k = l * q3) (h4 : D2 a c g x = l * q4) (h5 : D2 d e g k = l * q5) (h6 : D2 d f g x = l * q6) (h : D3 a b c d e f g k x = l * l * D) :
    bare 3 s l [[a, b, c], [d, e, f], [g, k, x]] = s * D := by
  have eb : bare 3 s l [[a, b, c], [d, e, f], [g, k, x]] = match (if a ≠ 0 then some 0 else if d ≠ 0 then some 1 else if g ≠ 0 then some 2 else none) with
      | none => 0
      | some k' => bare 2 (if k' % 2 = 1 then -s else s) ((([[a, b, c], [d, e, f], [g, k, x]] : List (List Int)).getD k' []).headD 0) (((([[a, b, c], [d, e, f], [g, k, x]] : List (List Int)).eraseIdx k')).map fun r => clr ((([[a, b, c], [d, e, f], [g, k, x]] : List (List Int))).getD k' []) r l) := rfl
  rw [eb]
  unfold D2 at h1 h2 h3 h4 h5 h6
  by_cases ha : a = 0
  · rw [if_neg (fun z => z ha)]
    by_cases hd : d = 0
    · rw [if_neg (fun z => z hd)]
      by_cases hg : g = 0
      · rw [if_neg (fun z => z hg)]
        rw [ha, hd, hg, D3_zero] at h
        have z : D = 0 := cancel2 hl (by rw [← h, Int.mul_zero])
        rw [z, Int.mul_zero]
      · rw [if_pos hg]
        show bare 2 s g [[(g * b - a * k).fdiv l, (g * c - a * x).fdiv l], [(g * e - d * k).fdiv l, (g * f - d * x).fdiv l]] = s * D
        have f1 : g * b - a * k = l * (-q3) := by grind
        have f2 : g * c - a * x = l * (-q4) := by grind
        have f3 : g * e - d * k = l * (-q5) := by grind
        have f4 : g * f - d * x = l * (-q6) := by grind
        rw [fdiv_of hl f1, fdiv_of hl f2, fdiv_of hl f3, fdiv_of hl f4]
        refine bare2 s g _ _ _ _ D hg (can3 hl (Z := l * l * D) ?_ rfl)
        have t := chio3 g k x a b c d e f
        rw [D3_swap2, h, f1, f2, f3, f4] at t
        exact t
    · rw [if_pos hd]
      show bare 2 (-s) d [[(d * b - a * e).fdiv l, (d * c - a * f).fdiv l], [(d * k - g * e).fdiv l, (d * x - g * f).fdiv l]] = s * D
      have f1 : d * b - a * e = l * (-q1) := by grind
      have f2 : d * c - a * f = l * (-q2) := by grind
      have f3 : d * k - g * e = l * q5 := by grind
      have f4 : d * x - g * f = l * q6 := by grind
      rw [fdiv_of hl f1, fdiv_of hl f2, fdiv_of hl f3, fdiv_of hl f4]
      rw [show s * D = -s * (-D) by grind]
      refine bare2 (-s) d _ _ _ _ (-D) hd (can3 hl (Z := -(l * l * D)) ?_ (by rw [Int.mul_neg]))
      have t := chio3 d e f a b c g k x
      rw [D3_swap1, h, f1, f2, f3, f4] at t
      exact t
  · rw [if_pos ha]
    show bare 2 s a [[(a * e - d * b).fdiv l, (a * f - d * c).fdiv l], [(a * k - g * b).fdiv l, (a * x - g * c).fdiv l]] = s * D
    have f1 : a * e - d * b = l * q1 := by grind
    have f2 : a * f - d * c = l * q2 := by grind
    have f3 : a * k - g * b = l * q3 := by grind
    have f4 : a * x - g * c = l * q4 := by grind
    rw [fdiv_of hl f1, fdiv_of hl f2, fdiv_of hl f3, fdiv_of hl f4]
    refine bare2 s a _ _ _ _ D ha (can3 hl (Z := l * l * D) ?_ rfl)
    have t := chio3 a b c d e f g k x
    rw [h, f1, f2, f3, f4] at t
    exact t
/-! size 4 -/
theorem chio4 (t0 t1 t2 t3 u0 u1 u2 u3 v0 v1 v2 v3 w0 w1 w2 w3 : Int) :
    D3 (t0 * u1 - u0 * t1) (t0 * u2 - u0 * t2) (t0 * u3 - u0 * t3) (t0 * v1 - v0 * t1) (t0 * v2 - v0 * t2) (t0 * v3 - v0 * t3) (t0 * w1 - w0 * t1) (t0 * w2 - w0 * t2) (t0 * w3 - w0 * t3) =
      t0 * t0 * D4 t0 t1 t2 t3 u0 u1 u2 u3 v0 v1 v2 v3 w0 w1 w2 w3 := by
  unfold D4 D3 D2
  grind
theorem D4_at1 (t0 t1 t2 t3 u0 u1 u2 u3 v0 v1 v2 v3 w0 w1 w2 w3 : Int) : D4 u0 u1 u2 u3 t0 t1 t2 t3 v0 v1 v2 v3 w0 w1 w2 w3 = -D4 t0 t1 t2 t3 u0 u1 u2 u3 v0 v1 v2 v3 w0 w1 w2 w3 := by
  unfold D4 D3 D2
  grind
theorem D4_at2 (t0 t1 t2 t3 u0 u1 u2 u3 v0 v1 v2 v3 w0 w1 w2 w3 : Int) : D4 v0 v1 v2 v3 t0 t1 t2 t3 u0 u1 u2 u3 w0 w1 w2 w3 = D4 t0 t1 t2 t3 u0 u1 u2 u3 v0 v1 v2 v3 w0 w1 w2 w3 := by
  unfold D4 D3 D2
  grind
theorem D4_at3 (t0 t1 t2 t3 u0 u1 u2 u3 v0 v1 v2 v3 w0 w1 w2 w3 : Int) : D4 w0 w1 w2 w3 t0 t1 t2 t3 u0 u1 u2 u3 v0 v1 v2 v3 = -D4 t0 t1 t2 t3 u0 u1 u2 u3 v0 v1 v2 v3 w0 w1 w2 w3 := by
  unfold D4 D3 D2
  grind
theorem D4_zero (t1 t2 t3 u1 u2 u3 v1 v2 v3 w1 w2 w3 : Int) : D4 0 t1 t2 t3 0 u1 u2 u3 0 v1 v2 v3 0 w1 w2 w3 = 0 := by
  unfold D4 D3 D2
  grind
/-- after one step, with the pivot row t -/
theorem bare4p (s t0 t1 t2 t3 u0 u1 u2 u3 v0 v1 v2 v3 w0 w1 w2 w3 D : Int) (h0 : t0 ≠ 0) (h : D4 t0 t1 t2 t3 u0 u1 u2 u3 v0 v1 v2 v3 w0 w1 w2 w3 = D) :
    bare 3 s t0 [[(t0 * u1 - u0 * t1).fdiv 1, (t0 * u2 - u0 * t2).fdiv 1, (t0 * u3 - u0 * t3).fdiv 1], [(t0 * v1 - v0 * t1).fdiv 1, (t0 * v2 - v0 * t2).fdiv 1, (t0 * v3 - v0 * t3).fdiv 1], [(t0 * w1 - w0 * t1).fdiv 1, (t0 * w2 - w0 * t2).fdiv 1, (t0 * w3 - w0 * t3).fdiv 1]] = s * D := by
  have f : ∀ x : Int, x.fdiv 1 = x := fun x => fdiv_of (by decide) (by rw [Int.one_mul])
  simp only [f]
  refine bare3 s t0 _ _ _ _ _ _ _ _ _ D (D3 t0 t1 t2 u0 u1 u2 v0 v1 v2) (D3 t0 t1 t3 u0 u1 u3 v0 v1 v3) (D3 t0 t1 t2 u0 u1 u2 w0 w1 w2) (D3 t0 t1 t3 u0 u1 u3 w0 w1 w3) (D3 t0 t1 t2 v0 v1 v2 w0 w1 w2) (D3 t0 t1 t3 v0 v1 v3 w0 w1 w3) h0 ?_ ?_ ?_ ?_ ?_ ?_ ?_
  · exact chio3 ..
  · exact chio3 ..
  · exact chio3 ..
  · exact chio3 ..
  · exact chio3 ..
  · exact chio3 ..
  · rw [chio4, h]
theorem bare4 (s t0 t1 t2 t3 u0 u1 u2 u3 v0 v1 v2 v3 w0 w1 w2 w3 : Int) :
    bare 4 s 1 [[t0, t1, t2, t3], [u0, u1, u2, u3], [v0, v1, v2, v3], [w0, w1, w2, w3]] = s * D4 t0 t1 t2 t3 u0 u1 u2 u3 v0 v1 v2 v3 w0 w1 w2 w3 := by
  have eb : bare 4 s 1 [[t0, t1, t2, t3], [u0, u1, u2, u3], [v0, v1, v2, v3], [w0, w1, w2, w3]] = match (if t0 ≠ 0 then some 0 else if u0 ≠ 0 then some 1 else if v0 ≠ 0 then some 2 else if w0 ≠ 0 then some 3 else none) with
      | none => 0
      | some k' => bare 3 (if k' % 2 = 1 then -s else s) ((([[t0, t1, t2, t3], [u0, u1, u2, u3], [v0, v1, v2, v3], [w0, w1, w2, w3]] : List (List Int)).getD k' []).headD 0) (((([[t0, t1, t2, t3], [u0, u1, u2, u3], [v0, v1, v2, v3], [w0, w1, w2, w3]] : List (List Int)).eraseIdx k')).map fun r => clr ((([[t0, t1, t2, t3], [u0, u1, u2, u3], [v0, v1, v2, v3], [w0, w1, w2, w3]] : List (List Int))).getD k' []) r 1) := rfl
  rw [eb]
  by_cases ht : t0 = 0
  · rw [if_neg (fun z => z ht)]
    by_cases hu : u0 = 0
    · rw [if_neg (fun z => z hu)]
      by_cases hv : v0 = 0
      · rw [if_neg (fun z => z hv)]
        by_cases hw : w0 = 0
        · rw [if_neg (fun z => z hw), ht, hu, hv, hw, D4_zero, Int.mul_zero]
        · rw [if_pos hw]
          refine (bare4p (-s) w0 w1 w2 w3 t0 t1 t2 t3 u0 u1 u2 u3 v0 v1 v2 v3 _ hw rfl).trans ?_
          rw [D4_at3]
          grind
      · rw [if_pos hv]
        refine (bare4p s v0 v1 v2 v3 t0 t1 t2 t3 u0 u1 u2 u3 w0 w1 w2 w3 _ hv rfl).trans ?_
        rw [D4_at2]
    · rw [if_pos hu]
      refine (bare4p (-s) u0 u1 u2 u3 t0 t1 t2 t3 v0 v1 v2 v3 w0 w1 w2 w3 _ hu rfl).trans ?_
      rw [D4_at1]
      grind
  · rw [if_pos ht]
    exact bare4p s t0 t1 t2 t3 u0 u1 u2 u3 v0 v1 v2 v3 w0 w1 w2 w3 _ ht rfl
theorem bare3' (s a b c d e f g k x : Int) : bare 3 s 1 [[a, b, c], [d, e, f], [g, k, x]] = s * D3 a b c d e f g k x :=
  bare3 s 1 a b c d e f g k x (D3 a b c d e f g k x) _ _ _ _ _ _ (by decide) (Int.one_mul _).symm (Int.one_mul _).symm (Int.one_mul _).symm (Int.one_mul _).symm (Int.one_mul _).symm (Int.one_mul _).symm (by rw [Int.one_mul, Int.one_mul])
/-- the elimination gives the law's determinant -/
theorem bare_det {n : Nat} {m : List (List Int)} (hn : n ≤ 4) (h : Sz n m) : bare n 1 1 m = detL n m := by
  match n, hn, h with
  | 0, _, _ => exact Int.one_mul 1
  | 1, _, h =>
    obtain ⟨a, rfl⟩ := sz1 h
    rw [bare1, detL1, Int.one_mul]
  | 2, _, h =>
    obtain ⟨a, b, c, d, rfl⟩ := sz2 h
    rw [bare2 1 1 a b c d (D2 a b c d) (by decide) (Int.one_mul _).symm, detL2, Int.one_mul]
  | 3, _, h =>
    obtain ⟨a, b, c, d, e, f, g, k, x, rfl⟩ := sz3 h
    rw [bare3', detL3, Int.one_mul]
  | 4, _, h =>
    obtain ⟨a, b, c, d, e, f, g, k, l, o, p, q, r, s, t, u, rfl⟩ := sz4 h
    rw [bare4, detL4, Int.one_mul]

end
end K14
namespace K14
open PySem PySem.Spec PyProof.Rows L2 Gm
open C8 (Cal Met Mak pe_c pe_mt pe_mt0 pe_mk)
section
variable {P : Program} {w : World} {K : PySem.W.Frag} {mg : Str → Option Value} {base : Heap}
/-! ### _law_determinant: lists of lists -/
def LRow (H : Hp) (v : V) (r : List Int) : Prop := ∃ a, v = .ref a ∧ H a = some (.lst (r.map V.int))
def LRows (H : Hp) (v : V) (m : List (List Int)) : Prop := ∃ a ws, v = .ref a ∧ H a = some (.lst ws) ∧ Paired (LRow H) ws m
theorem LRow.same {H H' : Hp} {v : V} {r : List Int} (s : Same H H') (h : LRow H v r) : LRow H' v r := let ⟨a, e, x⟩ := h; ⟨a, e, s _ _ x⟩
theorem LRows.same {H H' : Hp} {v : V} {m : List (List Int)} (s : Same H H') (h : LRows H v m) : LRows H' v m := let ⟨a, ws, e, x, p⟩ := h; ⟨a, ws, e, s _ _ x, L2.Paired.mapP p fun _ _ => LRow.same s⟩
theorem sl_lst {K : PySem.W.Frag} {H : Hp} {a : Addr} {xs : List V} {lo hi : Option Int} {Q : VK} (h : H a = some (.lst xs)) (q : ∀ p, H p = none → Q (.ref p) (upd H p (.lst (cutV xs lo hi)))) : rSlL K (.ref a) lo hi H Q := ⟨a, xs, rfl, .inl (.inl h), q⟩
theorem sgn_next (j : Nat) : -(1 - 2 * ((j : Int) % 2)) = 1 - 2 * (((j + 1 : Nat) : Int) % 2) := by omega
theorem lmono {D : Addr} {m : List (List Int)} (i : Nat) (v : V) (H H' : Hp) (acc : List V) (_ : H D = some (.lst acc)) (o : Off D H H') (h : ∃ r, m[i]? = some r ∧ ∃ p, v = V.ref p ∧ p ≠ D ∧ H p = some (.lst (r.map V.int))) : ∃ r, m[i]? = some r ∧ ∃ p, v = V.ref p ∧ p ≠ D ∧ H' p = some (.lst (r.map V.int)) := let ⟨r, er, p, ev, ne, eh⟩ := h; ⟨r, er, p, ev, ne, o _ _ ne eh⟩
theorem lrows_of {D : Addr} {H : Hp} {l : List V} {m : List (List Int)} {n : Nat} (hn : n = m.length) (e : H D = some (.lst l)) (h : Paired (fun (i : Nat) v => ∃ r, m[i]? = some r ∧ ∃ p, v = V.ref p ∧ p ≠ D ∧ H p = some (.lst (r.map V.int))) (List.range n) l) : LRows H (.ref D) m :=
  ⟨D, l, rfl, e, L2.Paired.mapP (paired_at (F := fun v r => ∃ p, v = V.ref p ∧ p ≠ D ∧ H p = some (.lst (r.map V.int))) hn h) fun _ _ ⟨p, ev, _, eh⟩ => ⟨p, ev, eh⟩⟩
def sp_det (n : Nat) : Sp := fun vs H Q _ => ∃ v m B, vs = [v] ∧ LRows H v m ∧ Sq n B m ∧ B ≤ 1000000 ∧ ∀ H', Same H H' → Q (.int (detL n m)) H'
theorem ok_det (T : Top K mg) (hN : base.NoSeer) (hT : P.given.tree = none) : ∀ n, n ≤ 5 → FnOk P w K mg base CX0 (n + 1) T.a_law_determinant T.d_law_determinant ["rows"] (sp_det (n + 1))
  | 0, _ => by
    refine T.F_law_determinant.ok sc_law_determinant (fun vs H Q E h => ?_) (fun cdv A outer s H vs Q E hr h => ?_)
    · obtain ⟨v, m, B, rfl, _⟩ := h
      rfl
    · obtain ⟨v, m, B, rfl, ⟨a, ws, rfl, hs, hp⟩, sq, hB, q⟩ := h
      refine ⟨_, (pss_cons (ps_if (pt_cmpR op_eq (pe_callB (lenS K rfl) (by rfl) T.z_len (by decide +kernel) (pa_cons (pv 0) pa_nil)) pe_int (nomark _))
      (pss_one (ps_ret (pe_ix (ixL K rfl) (pe_ix (ixL K rfl) (pv 0) pe_int (fun _ _ => rfl)) pe_int (fun _ _ => rfl))))
      pss_nil)
      (pss_cons ps_never
      (pss_cons ps_never
      (pss_cons ps_never
      (pss_one ps_never))))), ?_⟩
      have lw := Paired.length hp
      have lm := sq.len
      obtain ⟨r0, rfl⟩ : ∃ r0, m = [r0] := by
        match m, lm with
        | [r0], _ => exact ⟨r0, rfl⟩
      have hr0 := sq.row r0 (List.mem_cons_self ..)
      obtain ⟨z, rfl⟩ : ∃ z, r0 = [z] := by
        match r0, hr0 with
        | [z], _ => exact ⟨z, rfl⟩
      obtain ⟨v0, rfl⟩ : ∃ v0, ws = [v0] := by
        match ws, lw with
        | [v0], _ => exact ⟨v0, rfl⟩
      obtain ⟨b0, rfl, hb0⟩ : LRow H v0 [z] := by
        cases hp with
        | cons x y => exact x
      refine ⟨_, rfl, a, _, rfl, .inl (.inl (.inl hs)), rfl, _, rfl, ?_⟩
      refine iteT ?_
      refine ⟨_, rfl, a, _, _, _, rfl, rfl, .inl (.inl hs), atI_nat (j := 0) rfl, b0, _, _, _, rfl, rfl, .inl (.inl hb0), atI_nat (j := 0) rfl, ?_⟩
      have e : z = detL 1 [[z]] := by
        unfold detL detT detL
        simp
      have := q H (Same.refl _)
      rw [← e] at this
      exact this
  | n + 1, hn8 => by
    have IH := ok_det T hN hT n (by omega)
    have cself : Cal P w K mg base (n + 1) "_law_determinant" (sp_det (n + 1)) [] := ⟨⟨_, _, _, [], IH, T.g_law_determinant, T.F_law_determinant.kp, T.b_law_determinant, .nil⟩⟩
    refine T.F_law_determinant.ok sc_law_determinant (fun vs H Q E h => ?_) (fun cdv A outer s H vs Q E hr h => ?_)
    · obtain ⟨v, m, B, rfl, _⟩ := h
      rfl
    · obtain ⟨v, m, B, rfl, ⟨a, ws, rfl, hs, hp⟩, sq, hB, q⟩ := h
      have lw := Paired.length hp
      have lm := sq.len
      obtain ⟨r0, mt, rfl⟩ : ∃ r0 mt, m = r0 :: mt := by
        cases m with
        | nil => exact absurd lm (by simp)
        | cons r0 mt => exact ⟨r0, mt, rfl⟩
      obtain ⟨v0, wt, rfl⟩ : ∃ v0 wt, ws = v0 :: wt := by
        cases ws with
        | nil => exact absurd lw (by simp)
        | cons v0 wt => exact ⟨v0, wt, rfl⟩
      have hr0 := sq.row r0 (List.mem_cons_self ..)
      obtain ⟨⟨b0, rfl, hb0⟩, hpt⟩ : LRow H v0 r0 ∧ Paired (LRow H) wt mt := by
        cases hp with
        | cons x y => exact ⟨x, y⟩
      have lwt := Paired.length hpt
      have lmt : mt.length = n + 1 := by rw [List.length_cons] at lm; omega
      refine ⟨_, (pss_cons (ps_if (pt_cmpR op_eq (pe_callB (lenS K rfl) (by rfl) T.z_len (by decide +kernel) (pa_cons (pv 0) pa_nil)) pe_int (nomark _))
      (pss_one (ps_ret (pe_ix (ixL K rfl) (pe_ix (ixL K rfl) (pv 0) pe_int (fun _ _ => rfl)) pe_int (fun _ _ => rfl))))
      pss_nil)
      (pss_cons (ps_set (i := 1) sc_law_determinant.nd rfl (by first | exact .inl rfl | exact .inr rfl) pe_int)
      (pss_cons (ps_set (i := 2) sc_law_determinant.nd rfl (by first | exact .inl rfl | exact .inr rfl) pe_int)
      (pss_cons (ps_for PassesOwn.never rfl (pi_range1 (by rfl) T.z_range (pa_cons (pe_callB (lenS K rfl) (by rfl) T.z_len (by decide +kernel) (pa_cons (pv 0) pa_nil)) pa_nil)) (pg_name (i := 3) sc_law_determinant.nd rfl (by first | exact .inl rfl | exact .inr rfl))
      (pss_cons (ps_setLc (i := 4) (own := [("row", 5)]) (g := (gName 5)) (by rfl) sc_law_determinant.nd rfl rfl (sw_true rfl rfl rfl (by decide +kernel)) (piS K rfl (pe_slice (slLK K rfl) (pv 0) (po_some pe_int) po_none)) ((by show BlkOk ["rows", "total", "sign", "j", "rest", "row"] (defScope s_law_determinant) _ _; exact blkOk_by (by decide +kernel))) (fun _ _ _ _ _ => (pg_name (i := 5) sc_law_determinant.nd rfl (by first | exact .inl rfl | exact .inr rfl))) (fun _ _ _ _ _ => pts_nil) (fun _ _ _ _ _ => (pe_op op_cat (pe_slice (slLK K rfl) (pv 5) po_none (po_some (pv 3))) (pe_slice (slLK K rfl) (pv 5) (po_some (pe_op op_add (pv 3) pe_int)) po_none))))
      (pss_cons (ps_set (i := 1) sc_law_determinant.nd rfl (by first | exact .inl rfl | exact .inr rfl) (pe_op op_add (pv 1) (pe_op op_mulX (pe_op op_mulX (pv 2) (pe_ix (ixL K rfl) (pe_ix (ixL K rfl) (pv 0) pe_int (fun _ _ => rfl)) (pv 3) (fun _ _ => rfl))) (pe_c cself hr (Nat.le_refl _) (by rfl) (pa_cons (pv 4) pa_nil)))))
      (pss_one (ps_set (i := 2) sc_law_determinant.nd rfl (by first | exact .inl rfl | exact .inr rfl) (pe_un un_neg (pv 2)))))))
      (pss_one (ps_ret (pv 1))))))), ?_⟩
      refine ⟨_, rfl, a, _, rfl, .inl (.inl (.inl hs)), rfl, _, rfl, ?_⟩
      rw [show decide (V.int (((V.ref b0 :: wt).length : Nat) : Int) = V.int 1) = false from decide_eq_false fun z => by have := V.int.inj z; rw [List.length_cons] at this; omega]
      refine iteF ?_
      -- total = 0; sign = 1; for j in range(len(rows))
      refine ⟨_, rfl, a, _, rfl, .inl (.inl (.inl hs)), _, rfl, by omega, by rw [lw, lm]; omega, ?_⟩
      rw [show ((((V.ref b0 :: wt).length : Nat) : Int)).toNat = n + 2 by rw [lw, lm]; exact Int.toNat_natCast _]
      refine for_it walk_range (fun k σ H2 => ∃ y3 y4, σ = [some (.ref a), some (.int (((List.range (n + 2)).map (detT (n + 1) (detL (n + 1)) (r0 :: mt))).take k).sum), some (.int (1 - 2 * ((k : Int) % 2))), y3, y4, none] ∧ Same H H2) ⟨_, _, rfl, Same.refl _⟩ (fun _ _ _ _ _ => trivial) ?_ ?_
      · rintro k x σ H2 H2' hk ⟨y3, y4, rfl, s2⟩ ⟨rfl, rfl⟩
        have hk0 : k < r0.length := by omega
        have et : ((List.range (n + 2)).map (detT (n + 1) (detL (n + 1)) (r0 :: mt)))[k]? = some (detT (n + 1) (detL (n + 1)) (r0 :: mt) k) := by
          rw [List.getElem?_map, List.getElem?_range hk]
          rfl
        have e0 : (r0 : List Int).getD k 0 = r0[k] := by
          rw [List.getD_eq_getElem?_getD, List.getElem?_eq_getElem hk0]
          rfl
        have hs2 := s2 _ _ hs
        -- rest
        refine ⟨_, rfl, 1, rfl, ?_⟩
        dsimp only [tNoPart]
        refine sl_lst hs2 fun p1 n1 => ?_
        have s3 := same_upd (o := .lst (cutV (V.ref b0 :: wt) (some 1) none)) n1
        have hp1 : (upd H2' p1 (.lst (cutV (V.ref b0 :: wt) (some 1) none))) p1 = some (.lst wt) := by
          rw [upd_same, show (1 : Int) = ((1 : Nat) : Int) from rfl, cut_drop]
          rfl
        generalize upd H2' p1 (.lst (cutV (V.ref b0 :: wt) (some 1) none)) = H3 at s3 hp1 ⊢
        refine ⟨p1, wt, rfl, .inl (.inl (.inl hp1)), fun J G W hG D hD => ?_⟩
        have lrest : (mt.map fun r => r.eraseIdx k).length = n + 1 := by rw [List.length_map, lmt]
        refine lc_all W hD (by rw [lwt, lmt]; omega) (fun H4 s4 => hG H4 fun b _ o => s4 b o) (fun i v H4 => ∃ r, (mt.map fun r => r.eraseIdx k)[i]? = some r ∧ ∃ p, v = V.ref p ∧ p ≠ D ∧ H4 p = some (.lst (r.map V.int))) lmono ?_ gm_name ?_
        · rintro i x H4 H4' acc Ko hi s4 eD ⟨rfl, ex⟩ kc
          obtain ⟨r, er, b, rfl, hb⟩ := Paired.getR hpt ex
          have hrl := sq.row r (List.mem_cons_of_mem _ (List.mem_of_getElem? er))
          have hb4 := (s2.trans (s3.trans s4)) _ _ hb
          refine ⟨rfl, ?_⟩
          refine ⟨_, rfl, _, rfl, 0 + (k : Int), rfl, ?_⟩
          refine sl_lst hb4 fun p2 n2 => ?_
          have s5 := same_upd (o := .lst (cutV (r.map V.int) none (some (0 + (k : Int))))) n2
          have hp2 : (upd H4' p2 (.lst (cutV (r.map V.int) none (some (0 + (k : Int)))))) p2 = some (.lst ((r.map V.int).take k)) := by
            rw [upd_same, Int.zero_add, cut_take]
          generalize upd H4' p2 (.lst (cutV (r.map V.int) none (some (0 + (k : Int))))) = H5 at s5 hp2 ⊢
          refine ⟨_, rfl, _, rfl, 0 + (k : Int), 1, rfl, rfl, _, rfl, ?_⟩
          dsimp only [tNoPart]
          refine sl_lst (s5 _ _ hb4) fun p3 n3 => ?_
          have s6 := same_upd (o := .lst (cutV (r.map V.int) (some (0 + (k : Int) + 1)) none)) n3
          have hp3 : (upd H5 p3 (.lst (cutV (r.map V.int) (some (0 + (k : Int) + 1)) none))) p3 = some (.lst ((r.map V.int).drop (k + 1))) := by
            rw [upd_same, show (0 + (k : Int) + 1) = ((k + 1 : Nat) : Int) by omega, cut_drop]
          generalize upd H5 p3 (.lst (cutV (r.map V.int) (some (0 + (k : Int) + 1)) none)) = H6 at s6 hp3 ⊢
          refine ⟨p2, p3, _, _, rfl, rfl, s6 _ _ hp2, hp3, Nat.le_of_lt (small1000 (by simp only [List.length_take, List.length_drop, List.length_map]; omega)), fun p4 n4 => ?_⟩
          have s7 := same_upd (o := .lst ((r.map V.int).take k ++ (r.map V.int).drop (k + 1))) n4
          have eD6 := s6 _ _ (s5 _ _ eD)
          refine kc _ _ (s5.trans (s6.trans s7)) ⟨r.eraseIdx k, by rw [List.getElem?_map, er]; rfl, p4, rfl, ?_, ?_⟩
          · rintro rfl
            rw [eD6] at n4
            cases n4
          · rw [upd_same, ← erase_eq, List.map_append, List.map_take, List.map_drop]
        · intro H4 l s4 eD hpl
          have sm := s2.trans (s3.trans s4)
          have hrows : LRows H4 (.ref D) (mt.map fun r => r.eraseIdx k) := lrows_of (by rw [lrest, lwt, lmt]) eD hpl
          have sqt : Sq (n + 1) B (mt.map fun r => r.eraseIdx k) := sq_tail sq hk
          refine ⟨_, rfl, _, rfl, _, rfl, a, _, _, _, rfl, rfl, .inl (.inl (sm _ _ hs)), atI_nat (j := 0) rfl, _, rfl, b0, _, _, _, rfl, rfl, .inl (.inl (sm _ _ hb0)), at_of (j := k) (by omega) (ints_at (List.getElem?_eq_getElem hk0)), ?_⟩
          have bk : (r0[k]).natAbs < 2 ^ B := sq.bits r0 (List.mem_cons_self ..) _ (List.getElem_mem hk0)
          have b1 : (1 - 2 * ((k : Int) % 2)).natAbs < 2 ^ 1 := by
            have : (1 - 2 * ((k : Int) % 2)).natAbs = 1 := by omega
            rw [this]
            decide
          refine ⟨_, _, rfl, rfl, mulx_ok b1 bk (by omega), _, rfl, .ref D, _, B, rfl, hrows, sqt, hB, fun H5 s5 => ?_⟩
          have bd := detL_le (by omega : n + 1 ≤ 10) sqt
          have hnB : (n + 1) * (B + 8) ≤ 6 * (1000000 + 8) := Nat.mul_le_mul (by omega) (by omega)
          refine ⟨_, _, rfl, rfl, mulx_ok (wide_lt b1 bk) bd (by omega), _, _, rfl, rfl, ?_⟩
          refine ⟨_, rfl, _, rfl, ?_⟩
          refine ⟨some (.int (0 + (k : Int))), some (.ref D), ?_, sm.trans s5⟩
          rw [sum_take et]
          have : detT (n + 1) (detL (n + 1)) (r0 :: mt) k = (1 - 2 * ((k : Int) % 2)) * r0[k] * detL (n + 1) (mt.map fun r => r.eraseIdx k) := by
            unfold detT
            show (1 - 2 * ((k : Int) % 2)) * r0.getD k 0 * _ = _
            rw [e0]
            rfl
          rw [this, ← sgn_next]
          rfl
      · rintro σ H2 ⟨y3, y4, rfl, s2⟩
        rw [List.take_of_length_le (by rw [List.length_map, List.length_range]; exact Nat.le_refl _)]
        exact ⟨_, rfl, q _ s2⟩
def sp_law_determinant : Sp := fun vs H Q E => ∃ n, n ≤ 5 ∧ sp_det (n + 1) vs H Q E
theorem ok_law_determinant (T : Top K mg) (hN : base.NoSeer) (hT : P.given.tree = none) : FnOk P w K mg base CX0 10 T.a_law_determinant T.d_law_determinant ["rows"] sp_law_determinant :=
  ⟨fun vs H Q E ⟨n, hn, v, m, B, e, _⟩ => by rw [e]; rfl, fun A outer s H args us vs Q E hr e b v ⟨n, hn, h⟩ => (ok_det T hN hT n hn).run A outer s H args us vs Q E (hr.mono (by omega)) e b v h⟩
theorem cal_law_determinant (T : Top K mg) (hN : base.NoSeer) (hT : P.given.tree = none) : Cal P w K mg base 10 "_law_determinant" sp_law_determinant [] := ⟨⟨_, _, _, [], ok_law_determinant T hN hT, T.g_law_determinant, T.F_law_determinant.kp, T.b_law_determinant, .nil⟩⟩

end
end K14
namespace K14
open PySem PySem.Spec PyProof.Rows L2 Gm
open C8 (Cal Met Mak pe_c pe_mt pe_mt0 pe_mk)
section
variable {P : Program} {w : World} {K : PySem.W.Frag} {mg : Str → Option Value} {base : Heap}
theorem paired_take {α β : Type} {F : α → β → Prop} : ∀ {xs : List α} {ys : List β} (k : Nat), Paired F xs ys → Paired F (xs.take k) (ys.take k)
  | _, _, _, .nil => by simp only [List.take_nil]; exact .nil
  | _, _, 0, .cons _ _ => by simp only [List.take_zero]; exact .nil
  | _, _, k + 1, .cons r t => by simp only [List.take_succ_cons]; exact .cons r (paired_take k t)
theorem paired_drop {α β : Type} {F : α → β → Prop} : ∀ {xs : List α} {ys : List β} (k : Nat), Paired F xs ys → Paired F (xs.drop k) (ys.drop k)
  | _, _, _, .nil => by simp only [List.drop_nil]; exact .nil
  | _, _, 0, .cons r t => .cons r t
  | _, _, k + 1, .cons r t => by simp only [List.drop_succ_cons]; exact paired_drop k t

end
end K14
namespace K14
open PySem PySem.Spec PyProof.Rows L2 Gm
open C8 (Cal Met Mak pe_c pe_mt pe_mt0 pe_mk)
section
variable {P : Program} {w : World} {K : PySem.W.Frag} {mg : Str → Option Value} {base : Heap}
/-! ### _law_minor, _law_norm -/
def upL (m : List (List Int)) (s : Nat) : List (List Int) := (m.take s).map fun r => r.take s
theorem upL_sq {n B s : Nat} {m : List (List Int)} (h : Sq n B m) (hs : s ≤ n) : Sq s B (upL m s) := by
  refine ⟨by unfold upL; rw [List.length_map, List.length_take, h.len]; omega, fun r hr => ?_, fun r hr => ?_⟩
  · obtain ⟨r', hr', rfl⟩ := List.mem_map.mp hr
    rw [List.length_take, h.row r' (List.mem_of_mem_take hr')]
    omega
  · obtain ⟨r', hr', rfl⟩ := List.mem_map.mp hr
    exact fun x hx => h.bits r' (List.mem_of_mem_take hr') x (List.mem_of_mem_take hx)
def sp_law_minor : Sp := fun vs H Q _ => ∃ (v : V) (m : List (List Int)) (n B s : Nat), vs = [v, .int s] ∧ LRows H v m ∧ Sq n B m ∧ s ≤ n ∧ n ≤ 5 ∧ B ≤ 1000000 ∧ ∀ H', Same H H' → Q (.int (detL s (upL m s))) H'
theorem ok_law_minor (T : Top K mg) (hN : base.NoSeer) (hT : P.given.tree = none) : FnOk P w K mg base CX0 11 T.a_law_minor T.d_law_minor ["gram", "size"] sp_law_minor := by
  refine T.F_law_minor.ok sc_law_minor (fun vs H Q E h => ?_) (fun cdv A outer s H vs Q E hr h => ?_)
  · obtain ⟨v, m, n, B, s, rfl, _⟩ := h
    rfl
  · obtain ⟨v, m, n, B, s, rfl, ⟨a, ws, rfl, hs, hp⟩, sq, hsn, hn5, hB, q⟩ := h
    refine ⟨_, (pss_cons (ps_if (pt_cmpR op_eq (pv 1) pe_int (nomark _))
      (pss_one (ps_ret pe_int))
      pss_nil)
      (pss_one (ps_ret (pe_c (cal_law_determinant T hN hT) hr (by decide) (by rfl) (pa_cons (pe_lc (own := [("row", 2)]) (g := (gName 2)) (by rfl) sc_law_minor.nd (piS K rfl (pe_slice (slLK K rfl) (pv 0) po_none (po_some (pv 1)))) ((by show BlkOk ["gram", "size", "row"] (defScope s_law_minor) _ _; exact blkOk_by (by decide +kernel))) (fun _ _ _ _ _ => (pg_name (i := 2) sc_law_minor.nd rfl (by first | exact .inl rfl | exact .inr rfl))) (fun _ _ _ _ _ => pts_nil) (fun _ _ _ _ _ => (pe_slice (slLK K rfl) (pv 2) po_none (po_some (pv 1))))) pa_nil))))), ?_⟩
    refine ⟨_, rfl, rfl, _, rfl, ?_⟩
    by_cases h0 : V.int (s : Int) = V.int 0
    · rw [decide_eq_true h0]
      refine iteT ?_
      have e0 := V.int.inj h0
      obtain rfl : s = 0 := by omega
      exact q H (Same.refl _)
    · rw [decide_eq_false h0]
      refine iteF ?_
      have hs1 : 0 < s := by
        rcases Nat.eq_zero_or_pos s with h | h
        · subst h
          exact absurd rfl h0
        · exact h
      refine ⟨_, rfl, _, rfl, (s : Int), rfl, ?_⟩
      refine sl_lst hs fun p1 n1 => ?_
      have s3 := same_upd (o := .lst (cutV ws none (some (s : Int)))) n1
      have hp1 : (upd H p1 (.lst (cutV ws none (some (s : Int))))) p1 = some (.lst (ws.take s)) := by rw [upd_same, cut_take]
      generalize upd H p1 (.lst (cutV ws none (some (s : Int)))) = H3 at s3 hp1 ⊢
      have hpt := paired_take s hp
      have lwt := Paired.length hpt
      have ltk : (m.take s).length = s := by rw [List.length_take, sq.len]; omega
      refine ⟨p1, _, rfl, .inl (.inl (.inl hp1)), fun J G W hG D hD => ?_⟩
      refine lc_all W hD (by omega) (fun H4 s4 => hG H4 fun b _ o => s4 b o) (fun i v H4 => ∃ r, (upL m s)[i]? = some r ∧ ∃ p, v = V.ref p ∧ p ≠ D ∧ H4 p = some (.lst (r.map V.int))) lmono ?_ gm_name ?_
      · rintro i x H4 H4' acc Ko hi s4 eD ⟨rfl, ex⟩ kc
        obtain ⟨r, er, b, rfl, hb⟩ := Paired.getR hpt ex
        refine ⟨rfl, ?_⟩
        refine ⟨_, rfl, _, rfl, (s : Int), rfl, ?_⟩
        refine sl_lst ((s3.trans s4) _ _ hb) fun p2 n2 => ?_
        refine kc _ _ (same_upd n2) ⟨r.take s, by unfold upL; rw [List.getElem?_map, er]; rfl, p2, rfl, ?_, ?_⟩
        · rintro rfl
          rw [eD] at n2
          cases n2
        · rw [upd_same, cut_take, List.map_take]
      · intro H4 l s4 eD hpl
        have sqU := upL_sq sq hsn
        have hrows := lrows_of (m := upL m s) (by rw [sqU.len]; omega) eD hpl
        obtain ⟨s', rfl⟩ : ∃ s', s = s' + 1 := ⟨s - 1, by omega⟩
        exact ⟨s', by omega, .ref D, _, B, rfl, hrows, sqU, hB, fun H5 s5 => q H5 (s3.trans (s4.trans s5))⟩
theorem cal_law_minor (T : Top K mg) (hN : base.NoSeer) (hT : P.given.tree = none) : Cal P w K mg base 11 "_law_minor" sp_law_minor [] := ⟨⟨_, _, _, [], ok_law_minor T hN hT, T.g_law_minor, T.F_law_minor.kp, T.b_law_minor, .nil⟩⟩

end
end K14
namespace K14
open PySem PySem.Spec PyProof.Rows L2 Gm
open C8 (Cal Met Mak pe_c pe_mt pe_mt0 pe_mk)
section
variable {P : Program} {w : World} {K : PySem.W.Frag} {mg : Str → Option Value} {base : Heap}
def sumF : Nat → (Nat → Int) → Int
  | 0, _ => 0
  | n + 1, f => sumF n f + f n
def ent (m : List (List Int)) (i j : Nat) : Int := (m.getD i []).getD j 0
def quadL (m : List (List Int)) (v : Nat → Int) (n : Nat) : Int := sumF n fun i => sumF n fun j => ent m i j * v i * v j
theorem ent_get {n B : Nat} {m : List (List Int)} (h : Sq n B m) {i j : Nat} (hi : i < n) (hj : j < n) : ∃ r, m[i]? = some r ∧ r[j]? = some (ent m i j) ∧ (ent m i j).natAbs < 2 ^ B := by
  have hi' : i < m.length := by rw [h.len]; exact hi
  refine ⟨m[i], List.getElem?_eq_getElem hi', ?_, ?_⟩
  · have hr := h.row m[i] (List.getElem_mem hi')
    unfold ent
    rw [List.getD_eq_getElem?_getD (l := m), List.getElem?_eq_getElem hi', List.getD_eq_getElem?_getD]
    show _ = some ((m[i][j]?).getD 0)
    rw [List.getElem?_eq_getElem (by omega)]
    rfl
  · have hr := h.row m[i] (List.getElem_mem hi')
    unfold ent
    rw [List.getD_eq_getElem?_getD (l := m), List.getElem?_eq_getElem hi', List.getD_eq_getElem?_getD]
    show ((m[i][j]?).getD 0).natAbs < _
    rw [List.getElem?_eq_getElem (by omega)]
    exact h.bits m[i] (List.getElem_mem hi') _ (List.getElem_mem _)
theorem getD_get {v : List Int} {i : Nat} (h : i < v.length) : v[i]? = some (v.getD i 0) := by
  rw [List.getD_eq_getElem?_getD, List.getElem?_eq_getElem h]
  rfl
def sp_law_norm : Sp := fun vs H Q _ => ∃ (g u : V) (m : List (List Int)) (v : List Int) (n B : Nat), vs = [g, u] ∧ LRows H g m ∧ LRow H u v ∧ Sq n B m ∧ v.length = n ∧ Bits 3 v ∧ n ≤ 5 ∧ B ≤ 1000000 ∧ ∀ H', Same H H' → Q (.int (quadL m (fun i => v.getD i 0) n)) H'
theorem ok_law_norm (T : Top K mg) (hN : base.NoSeer) (hT : P.given.tree = none) : FnOk P w K mg base CX0 1 T.a_law_norm T.d_law_norm ["gram", "v"] sp_law_norm := by
  refine T.F_law_norm.ok sc_law_norm (fun vs H Q E h => ?_) (fun cdv A outer s H vs Q E hr h => ?_)
  · obtain ⟨g, u, m, v, n, B, rfl, _⟩ := h
    rfl
  · obtain ⟨g, u, m, v, n, B, rfl, ⟨a, ws, rfl, hs, hp⟩, ⟨b, rfl, hb⟩, sq, hv, bv, hn, hB, q⟩ := h
    refine ⟨_, (pss_cons (ps_set (i := 2) sc_law_norm.nd rfl (by first | exact .inl rfl | exact .inr rfl) pe_int)
      (pss_cons (ps_for PassesOwn.never rfl (pi_range1 (by rfl) T.z_range (pa_cons (pe_callB (lenS K rfl) (by rfl) T.z_len (by decide +kernel) (pa_cons (pv 1) pa_nil)) pa_nil)) (pg_name (i := 3) sc_law_norm.nd rfl (by first | exact .inl rfl | exact .inr rfl))
      (pss_one (ps_for PassesOwn.never rfl (pi_range1 (by rfl) T.z_range (pa_cons (pe_callB (lenS K rfl) (by rfl) T.z_len (by decide +kernel) (pa_cons (pv 1) pa_nil)) pa_nil)) (pg_name (i := 4) sc_law_norm.nd rfl (by first | exact .inl rfl | exact .inr rfl))
      (pss_one (ps_set (i := 2) sc_law_norm.nd rfl (by first | exact .inl rfl | exact .inr rfl) (pe_op op_add (pv 2) (pe_op op_mulX (pe_op op_mulX (pe_ix (ixL K rfl) (pe_ix (ixL K rfl) (pv 0) (pv 3) (fun _ _ => rfl)) (pv 4) (fun _ _ => rfl)) (pe_ix (ixL K rfl) (pv 1) (pv 3) (fun _ _ => rfl))) (pe_ix (ixL K rfl) (pv 1) (pv 4) (fun _ _ => rfl)))))))))
      (pss_one (ps_ret (pv 2))))), ?_⟩
    have lw := Paired.length hp
    rw [sq.len] at lw
    refine ⟨_, rfl, b, _, rfl, .inl (.inl (.inl hb)), _, rfl, by omega, by rw [List.length_map, hv]; omega, ?_⟩
    rw [show (((v.map V.int).length : Nat) : Int).toNat = n by rw [List.length_map, hv]; exact Int.toNat_natCast _]
    refine for_it walk_range (fun i σ H2 => ∃ y3 y4, σ = [some (.ref a), some (.ref b), some (.int (sumF i fun i => sumF n fun j => ent m i j * v.getD i 0 * v.getD j 0)), y3, y4] ∧ H2 = H) ⟨_, _, rfl, rfl⟩ (fun _ _ _ _ _ => trivial) ?_ ?_
    · rintro i zz σ H2 H2' hi ⟨y3, y4, rfl, rfl⟩ ⟨rfl, rfl⟩
      refine ⟨_, rfl, b, _, rfl, .inl (.inl (.inl hb)), _, rfl, by omega, by rw [List.length_map, hv]; omega, ?_⟩
      rw [show (((v.map V.int).length : Nat) : Int).toNat = n by rw [List.length_map, hv]; exact Int.toNat_natCast _]
      refine for_it walk_range (fun k σ H3 => ∃ y4, σ = [some (.ref a), some (.ref b), some (.int ((sumF i fun i => sumF n fun j => ent m i j * v.getD i 0 * v.getD j 0) + sumF k fun j => ent m i j * v.getD i 0 * v.getD j 0)), some (.int (0 + (i : Int))), y4] ∧ H3 = H2') ⟨_, by show _ = [_, _, some (V.int ((sumF i fun i => sumF n fun j => ent m i j * v.getD i 0 * v.getD j 0) + 0)), _, _]; rw [Int.add_zero]; rfl, rfl⟩ (fun _ _ _ _ _ => trivial) ?_ ?_
      · rintro k zz σ H3 H3' hk ⟨y4, rfl, rfl⟩ ⟨rfl, rfl⟩
        obtain ⟨r, er, erk, hbk⟩ := ent_get sq hi hk
        obtain ⟨rv, erv, c, rfl, hc⟩ := Paired.getL hp er
        have ei := getD_get (v := v) (i := i) (by omega)
        have ek := getD_get (v := v) (i := k) (by omega)
        refine ⟨_, rfl, _, rfl, _, rfl, a, _, _, _, rfl, rfl, .inl (.inl hs), at_of (j := i) (by omega) erv, _, rfl, c, _, _, _, rfl, rfl, .inl (.inl hc), at_of (j := k) (by omega) (ints_at erk), ?_⟩
        refine ⟨_, rfl, _, rfl, b, _, _, _, rfl, rfl, .inl (.inl hb), at_of (j := i) (by omega) (ints_at ei), ?_⟩
        refine ⟨_, _, rfl, rfl, mulx_ok hbk (bv.at ei) (by omega), ?_⟩
        refine ⟨_, rfl, _, rfl, b, _, _, _, rfl, rfl, .inl (.inl hb), at_of (j := k) (by omega) (ints_at ek), ?_⟩
        refine ⟨_, _, rfl, rfl, mulx_ok (wide_lt hbk (bv.at ei)) (bv.at ek) (by omega), ?_⟩
        refine ⟨_, _, rfl, rfl, ?_⟩
        refine ⟨some (.int (0 + (k : Int))), ?_, rfl⟩
        show _ = [_, _, some (V.int ((sumF i fun i => sumF n fun j => ent m i j * v.getD i 0 * v.getD j 0) + ((sumF k fun j => ent m i j * v.getD i 0 * v.getD j 0) + ent m i k * v.getD i 0 * v.getD k 0))), _, _]
        rw [← Int.add_assoc]
        rfl
      · rintro σ H3 ⟨y4, rfl, rfl⟩
        exact ⟨_, _, rfl, rfl⟩
    · rintro σ H2 ⟨y3, y4, rfl, rfl⟩
      exact ⟨_, rfl, q _ (Same.refl _)⟩
theorem cal_law_norm (T : Top K mg) (hN : base.NoSeer) (hT : P.given.tree = none) : Cal P w K mg base 1 "_law_norm" sp_law_norm [] := ⟨⟨_, _, _, [], ok_law_norm T hN hT, T.g_law_norm, T.F_law_norm.kp, T.b_law_norm, .nil⟩⟩

end
end K14
namespace K14
open PySem PySem.Spec PyProof.Rows L2 Gm
open C8 (Cal Met Mak pe_c pe_mt pe_mt0 pe_mk)
section
variable {P : Program} {w : World} {K : PySem.W.Frag} {mg : Str → Option Value} {base : Heap}
/-! ### _law_gram -/
/-- a row of the triangular matrix -/
structure TriRow (n i : Nat) (r : List Int) : Prop where
  len : r.length = n
  low : ∀ j, j < i → (r.getD j 0).natAbs ≤ 1
  at_ : r.getD i 0 = 1 ∨ r.getD i 0 = 2
  up : ∀ j, i < j → r.getD j 0 = 0
theorem triRow_mk {n i : Nat} (hi : i < n) {zs : List Int} (hz : zs.length = i) (bz : ∀ z ∈ zs, z.natAbs ≤ 1) {d : Int} (hd : d = 1 ∨ d = 2) : TriRow n i (zs ++ [d] ++ List.replicate (n - i - 1) 0) := by
  have e : ∀ j, (zs ++ [d] ++ List.replicate (n - i - 1) 0).getD j 0 = if j < i then zs.getD j 0 else if j = i then d else 0 := by
    intro j
    rw [List.getD_eq_getElem?_getD, List.append_assoc]
    by_cases h1 : j < i
    · rw [if_pos h1, List.getElem?_append_left (by omega), List.getD_eq_getElem?_getD]
    · rw [if_neg h1, List.getElem?_append_right (by omega)]
      by_cases h2 : j = i
      · rw [if_pos h2, show j - zs.length = 0 by omega]
        rfl
      · rw [if_neg h2, show j - zs.length = (j - zs.length - 1) + 1 by omega]
        show (((List.replicate (n - i - 1) (0 : Int))[j - zs.length - 1]?).getD 0) = 0
        rw [List.getElem?_replicate]
        split <;> rfl
  refine ⟨by simp only [List.length_append, List.length_replicate, List.length_singleton]; omega, fun j hj => ?_, ?_, fun j hj => ?_⟩
  · rw [e, if_pos hj, List.getD_eq_getElem?_getD, List.getElem?_eq_getElem (by omega)]
    exact bz _ (List.getElem_mem _)
  · rw [e, if_neg (by omega), if_pos rfl]
    exact hd
  · rw [e, if_neg (by omega), if_neg (by omega)]
/-- a list of lists apart from two others -/
def LA (p R : Addr) (H : Hp) (v : V) (r : List Int) : Prop := ∃ q, v = .ref q ∧ q ≠ p ∧ q ≠ R ∧ H q = some (.lst (r.map V.int))
theorem LA.same {p R : Addr} {H H' : Hp} {v : V} {r : List Int} (s : Same H H') (h : LA p R H v r) : LA p R H' v r := let ⟨q, e, n1, n2, x⟩ := h; ⟨q, e, n1, n2, s _ _ x⟩
theorem LA.offp {p R : Addr} {H H' : Hp} {v : V} {r : List Int} (o : Off p H H') (h : LA p R H v r) : LA p R H' v r := let ⟨q, e, n1, n2, x⟩ := h; ⟨q, e, n1, n2, o _ _ n1 x⟩
theorem LA.offR {p R : Addr} {H H' : Hp} {v : V} {r : List Int} (o : Off R H H') (h : LA p R H v r) : LA p R H' v r := let ⟨q, e, n1, n2, x⟩ := h; ⟨q, e, n1, n2, o _ _ n2 x⟩
theorem LA.row {p R : Addr} {H : Hp} {v : V} {r : List Int} (h : LA p R H v r) : LRow H v r := let ⟨q, e, _, _, x⟩ := h; ⟨q, e, x⟩
theorem NumAt.upd_ne {H : Hp} {p R : Addr} {o : HO} (n : p ≠ R) (h : NumAt H p) : NumAt (upd H R o) p := let ⟨a, e, l⟩ := h; ⟨a, by rw [L2.upd_ne n]; exact e, l⟩
/-- the products of the rows -/
def gramM (rs : List (List Int)) : List (List Int) := rs.map fun v => rs.map fun w => dotI v w
structure Tri (n : Nat) (rs : List (List Int)) : Prop where
  len : rs.length = n
  row : ∀ j r, rs[j]? = some r → TriRow n j r
structure GramOf (n : Nat) (e : Int) (rs m : List (List Int)) : Prop where
  sq : Sq n 8 m
  at_ : ∀ i j, i < n → j < n → ent m i j = dotI (rs.getD i []) (rs.getD j []) + if i + 1 = n ∧ j + 1 = n then e else 0
theorem TriRow.le2 {n i : Nat} {r : List Int} (h : TriRow n i r) : ∀ x ∈ r, x.natAbs ≤ 2 := fun x hx => by
  obtain ⟨j, hj⟩ := List.getElem?_of_mem hx
  have e : r.getD j 0 = x := by rw [List.getD_eq_getElem?_getD, hj]; rfl
  rcases Nat.lt_trichotomy j i with hl | rfl | hl
  · have := h.low j hl
    rw [e] at this
    omega
  · rcases h.at_ with h1 | h1
    · rw [e] at h1; omega
    · rw [e] at h1; omega
  · have := h.up j hl
    rw [e] at this
    omega
theorem dot_le {n i j : Nat} {a b : List Int} (hn : n ≤ 4) (ha : TriRow n i a) (hb : TriRow n j b) : (dotI a b).natAbs ≤ 16 := by
  have h : (dotI a b).natAbs ≤ (List.zipWith (· * ·) a b).length * 4 := by
    refine sum_le fun z hz => ?_
    obtain ⟨k, hk⟩ := List.getElem?_of_mem hz
    rw [List.getElem?_zipWith] at hk
    cases e1 : a[k]? with
    | none => rw [e1] at hk; cases hk
    | some x =>
      cases e2 : b[k]? with
      | none => rw [e1, e2] at hk; cases hk
      | some y =>
        rw [e1, e2] at hk
        rw [← Option.some.inj hk, Int.natAbs_mul]
        exact Nat.mul_le_mul (ha.le2 x (List.mem_of_getElem? e1)) (hb.le2 y (List.mem_of_getElem? e2))
  have h2 : (List.zipWith (· * ·) a b).length ≤ 4 := by
    rw [List.length_zipWith, ha.len]
    omega
  omega
theorem gramM_len (rs : List (List Int)) : (gramM rs).length = rs.length := by unfold gramM; rw [List.length_map]
theorem gramM_get {rs : List (List Int)} {i : Nat} {r : List Int} (h : rs[i]? = some r) : (gramM rs)[i]? = some (rs.map fun w => dotI r w) := by
  unfold gramM
  rw [List.getElem?_map, h]
  rfl
theorem gramM_ent {rs : List (List Int)} {i j : Nat} (hi : i < rs.length) (hj : j < rs.length) : ent (gramM rs) i j = dotI (rs.getD i []) (rs.getD j []) := by
  unfold ent
  have e1 : (gramM rs)[i]? = _ := gramM_get (List.getElem?_eq_getElem hi)
  rw [List.getD_eq_getElem?_getD (l := gramM rs), e1, List.getD_eq_getElem?_getD (l := rs), List.getElem?_eq_getElem hi, List.getD_eq_getElem?_getD (l := rs), List.getElem?_eq_getElem hj]
  show (List.map (fun w => dotI rs[i] w) rs).getD j 0 = dotI rs[i] rs[j]
  rw [List.getD_eq_getElem?_getD, List.getElem?_map, List.getElem?_eq_getElem hj]
  rfl
theorem gram_0 {n : Nat} {rs : List (List Int)} (hn : n ≤ 4) (t : Tri n rs) : GramOf n 0 rs (gramM rs) := by
  refine ⟨⟨by rw [gramM_len, t.len], fun r hr => ?_, fun r hr => ?_⟩, fun i j hi hj => ?_⟩
  · obtain ⟨a, ha, rfl⟩ := List.mem_map.mp hr
    rw [List.length_map, t.len]
  · obtain ⟨a, ha, rfl⟩ := List.mem_map.mp hr
    intro x hx
    obtain ⟨b, hb, rfl⟩ := List.mem_map.mp hx
    obtain ⟨i, hi⟩ := List.getElem?_of_mem ha
    obtain ⟨j, hj⟩ := List.getElem?_of_mem hb
    have := dot_le hn (t.row i a hi) (t.row j b hj)
    show (dotI a b).natAbs < 256
    omega
  · rw [gramM_ent (by rw [t.len]; exact hi) (by rw [t.len]; exact hj)]
    split <;> omega
theorem gram_e {n : Nat} {rs : List (List Int)} {e : Int} {r : List Int} (hn : n ≤ 4) (hn0 : 0 < n) (t : Tri n rs) (he : 0 ≤ e ∧ e ≤ 2) (hr : (gramM rs)[n - 1]? = some r) : GramOf n e rs ((gramM rs).set (n - 1) (r.set (n - 1) (ent (gramM rs) (n - 1) (n - 1) + e))) := by
  have g0 := gram_0 hn t
  have hrl := g0.sq.row r (List.mem_of_getElem? hr)
  have hml := g0.sq.len
  have eL : (ent (gramM rs) (n - 1) (n - 1)).natAbs ≤ 16 := by
    rw [gramM_ent (by rw [t.len]; omega) (by rw [t.len]; omega)]
    have hl : n - 1 < rs.length := by rw [t.len]; omega
    have e1 := List.getElem?_eq_getElem hl
    rw [List.getD_eq_getElem?_getD, e1]
    exact dot_le hn (t.row _ _ e1) (t.row _ _ e1)
  have hb : Bits 8 (r.set (n - 1) (ent (gramM rs) (n - 1) (n - 1) + e)) := fun x hx => by
    rcases List.mem_or_eq_of_mem_set hx with h | h
    · exact g0.sq.bits r (List.mem_of_getElem? hr) x h
    · rw [h]
      show _ < 256
      omega
  refine ⟨⟨by rw [List.length_set, hml], fun q hq => ?_, fun q hq => ?_⟩, fun i j hi hj => ?_⟩
  · rcases List.mem_or_eq_of_mem_set hq with h | h
    · exact g0.sq.row q h
    · rw [h, List.length_set, hrl]
  · rcases List.mem_or_eq_of_mem_set hq with h | h
    · exact g0.sq.bits q h
    · rw [h]
      exact hb
  · have h0 := g0.at_ i j hi hj
    unfold ent at h0 ⊢
    rw [List.getD_eq_getElem?_getD (l := List.set ..), List.getElem?_set]
    by_cases h1 : n - 1 = i
    · rw [if_pos h1, if_pos (by rw [hml]; omega)]
      show (List.set r (n - 1) _).getD j 0 = _
      rw [List.getD_eq_getElem?_getD, List.getElem?_set]
      rw [List.getD_eq_getElem?_getD (l := gramM rs), ← h1, hr] at h0
      have h0' : r.getD j 0 = dotI (rs.getD (n - 1) []) (rs.getD j []) + if n - 1 + 1 = n ∧ j + 1 = n then 0 else 0 := h0
      by_cases h2 : n - 1 = j
      · rw [if_pos h2, if_pos (by rw [hrl]; omega), ← h1, ← h2, if_pos ⟨by omega, by omega⟩]
        show ent (gramM rs) (n - 1) (n - 1) + e = _
        rw [gramM_ent (by rw [t.len]; omega) (by rw [t.len]; omega)]
      · rw [if_neg h2, ← List.getD_eq_getElem?_getD, h0', ← h1, if_neg (c := n - 1 + 1 = n ∧ j + 1 = n) (by omega), if_neg (by omega)]
    · rw [if_neg h1, ← List.getD_eq_getElem?_getD, h0, if_neg (c := i + 1 = n ∧ j + 1 = n) (by omega), if_neg (by omega)]
theorem la_upd {p R q : Addr} {H : Hp} {r' : List Int} : ∀ {gl : List V} {ms : List (List Int)} {i : Nat}, Paired (LA p R H) gl ms → gl.Nodup → gl[i]? = some (.ref q) → Paired (LA p R (upd H q (.lst (r'.map V.int)))) gl (ms.set i r')
  | _, _, i, .nil, _, h => by simp at h
  | v :: gl, r :: ms, 0, .cons x xs, nd, h => by
    obtain ⟨a, e, n1, n2, hx⟩ := x
    have hv : v = .ref q := by simpa using h
    rw [hv] at e
    cases e
    refine .cons ⟨q, hv, n1, n2, upd_same⟩ ?_
    have hq : .ref q ∉ gl := by rw [← hv]; exact (List.nodup_cons.mp nd).1
    exact go xs hq
  | v :: gl, r :: ms, i + 1, .cons x xs, nd, h => by
    obtain ⟨a, e, n1, n2, hx⟩ := x
    have hm : V.ref q ∈ gl := List.mem_of_getElem? (by simpa using h)
    refine .cons ⟨a, e, n1, n2, ?_⟩ (la_upd xs (List.nodup_cons.mp nd).2 (by simpa using h))
    rw [L2.upd_ne]
    · exact hx
    · rintro rfl
      rw [← e] at hm
      exact (List.nodup_cons.mp nd).1 hm
where
  go {p R q : Addr} {H : Hp} {r' : List Int} : ∀ {gl : List V} {ms : List (List Int)}, Paired (LA p R H) gl ms → .ref q ∉ gl → Paired (LA p R (upd H q (.lst (r'.map V.int)))) gl ms
    | _, _, .nil, _ => .nil
    | v :: gl, r :: ms, .cons x xs, nd => by
      obtain ⟨a, e, n1, n2, hx⟩ := x
      refine .cons ⟨a, e, n1, n2, ?_⟩ (go xs fun h => nd (List.mem_cons_of_mem _ h))
      rw [L2.upd_ne]
      · exact hx
      · rintro rfl
        exact nd (by rw [e]; exact List.mem_cons_self ..)
/-- a list of lists that is apart from p -/
def LAs (p : Addr) (H : Hp) (v : V) (m : List (List Int)) : Prop := ∃ a ws, v = .ref a ∧ a ≠ p ∧ H a = some (.lst ws) ∧ Paired (LA p p H) ws m
def sp_law_gram : Sp := fun vs H Q _ => ∃ (p : Addr) (n : Nat), vs = [.ref p, .int n] ∧ NumAt H p ∧ n ≤ 4 ∧ 0 < n ∧ ∀ v e rs m H', Off p H H' → NumAt H' p → LAs p H' v m → Tri n rs → 0 ≤ e ∧ e ≤ 2 → GramOf n e rs m → Q v H'
theorem ok_law_gram (T : Top K mg) (hN : base.NoSeer) (hT : P.given.tree = none) : FnOk P w K mg base CX0 2 T.a_law_gram T.d_law_gram ["numbers", "rank"] sp_law_gram := by
  refine T.F_law_gram.ok sc_law_gram (fun vs H Q E h => ?_) (fun cdv A outer s H vs Q E hr h => ?_)
  · obtain ⟨p, n, rfl, _⟩ := h
    rfl
  · obtain ⟨p, n, rfl, nu, hn, hn0, q⟩ := h
    refine ⟨_, (pss_cons (ps_set (i := 2) sc_law_gram.nd rfl (by first | exact .inl rfl | exact .inr rfl) (pe_lst pa_nil))
      (pss_cons (ps_for PassesOwn.never rfl (pi_range1 (by rfl) T.z_range (pa_cons (pv 1) pa_nil)) (pg_name (i := 3) sc_law_gram.nd rfl (by first | exact .inl rfl | exact .inr rfl))
      (pss_cons (ps_setLc (i := 4) (own := [("j", 7)]) (g := (gName 7)) (by rfl) sc_law_gram.nd rfl rfl (sw_true rfl rfl rfl (by decide +kernel)) (pi_range1 (by rfl) T.z_range (pa_cons (pv 3) pa_nil)) ((by show BlkOk ["numbers", "rank", "rows", "i", "row", "gram", "v", "j", "w", "k"] (defScope s_law_gram) _ _; exact blkOk_by (by decide +kernel))) (fun _ _ _ _ _ => (pg_name (i := 7) sc_law_gram.nd rfl (by first | exact .inl rfl | exact .inr rfl))) (fun _ _ _ _ _ => pts_nil) (fun _ _ _ _ _ => (pe_op op_sub (pe_c (cal_law_next T hN hT) hr (by decide) (by rfl) (pa_cons (pv 0) (pa_cons pe_int pa_nil))) pe_int)))
      (pss_one (ps_expr (pe_bm PySem.F.plainAttrs_list PySem.F.slot_list_append PySem.F.type_list_append mt_append (pv 2) (pa_cons (pe_op op_cat (pe_op op_cat (pv 4) (pe_lst (pa_cons (pe_op op_add pe_int (pe_callTy (call_int1) (by rfl) T.z_int (by decide +kernel) (pa_cons (pe_cmpR op_eq (pe_c (cal_law_next T hN hT) hr (by decide) (by rfl) (pa_cons (pv 0) (pa_cons pe_int pa_nil))) pe_int (nomark _)) pa_nil))) pa_nil))) (pe_lc (own := [("j", 7)]) (g := (gName 7)) (by rfl) sc_law_gram.nd (pi_range1 (by rfl) T.z_range (pa_cons (pe_op op_sub (pe_op op_sub (pv 1) (pv 3)) pe_int) pa_nil)) ((by show BlkOk ["numbers", "rank", "rows", "i", "row", "gram", "v", "j", "w", "k"] (defScope s_law_gram) _ _; exact blkOk_by (by decide +kernel))) (fun _ _ _ _ _ => (pg_name (i := 7) sc_law_gram.nd rfl (by first | exact .inl rfl | exact .inr rfl))) (fun _ _ _ _ _ => pts_nil) (fun _ _ _ _ _ => pe_int))) pa_nil))))))
      (pss_cons (ps_set (i := 5) sc_law_gram.nd rfl (by first | exact .inl rfl | exact .inr rfl) (pe_lst pa_nil))
      (pss_cons (ps_for PassesOwn.never rfl (piS K rfl (pv 2)) (pg_name (i := 6) sc_law_gram.nd rfl (by first | exact .inl rfl | exact .inr rfl))
      (pss_one (ps_expr (pe_bm PySem.F.plainAttrs_list PySem.F.slot_list_append PySem.F.type_list_append mt_append (pv 5) (pa_cons (pe_lc (own := [("w", 8)]) (g := (gName 8)) (by rfl) sc_law_gram.nd (piS K rfl (pv 2)) ((by show BlkOk ["numbers", "rank", "rows", "i", "row", "gram", "v", "j", "w", "k"] (defScope s_law_gram) _ _; exact blkOk_by (by decide +kernel))) (fun _ _ _ _ _ => (pg_name (i := 8) sc_law_gram.nd rfl (by first | exact .inl rfl | exact .inr rfl))) (fun _ _ _ _ _ => pts_nil) (fun _ _ _ _ _ => (pe_callB (sumK K rfl rfl) (by rfl) T.z_sum (by decide +kernel) (pa_cons (pe_lc (own := [("k", 9)]) (g := (gName 9)) (by rfl) sc_law_gram.nd (pi_range1 (by rfl) T.z_range (pa_cons (pv 1) pa_nil)) ((by show BlkOk ["numbers", "rank", "rows", "i", "row", "gram", "v", "j", "w", "k"] (relS _ (defScope s_law_gram)) _ _; exact blkOk_by (by decide +kernel))) (fun _ _ _ _ _ => (pg_name (i := 9) sc_law_gram.nd rfl (by first | exact .inl rfl | exact .inr rfl))) (fun _ _ _ _ _ => pts_nil) (fun _ _ _ _ _ => (pe_op op_mulX (pe_ix (ixL K rfl) (pv 6) (pv 9) (fun _ _ => rfl)) (pe_ix (ixL K rfl) (pv 8) (pv 9) (fun _ _ => rfl))))) pa_nil)))) pa_nil)))))
      (pss_cons (ps_if (pt_cmpR op_eq (pe_c (cal_law_next T hN hT) hr (by decide) (by rfl) (pa_cons (pv 0) (pa_cons pe_int pa_nil))) pe_int (nomark _))
      (pss_one (ps_asg (pe_op op_add (pe_op op_add (pe_ix (ixL K rfl) (pe_ix (ixL K rfl) (pv 5) (pe_op op_sub (pv 1) pe_int) (fun _ _ => rfl)) (pe_op op_sub (pv 1) pe_int) (fun _ _ => rfl)) pe_int) (pe_c (cal_law_next T hN hT) hr (by decide) (by rfl) (pa_cons (pv 0) (pa_cons pe_int pa_nil)))) (pg_sub (pe_ix (ixL K rfl) (pv 5) (pe_op op_sub (pv 1) pe_int) (fun _ _ => rfl)) (pe_op op_sub (pv 1) pe_int) set_list)))
      pss_nil)
      (pss_one (ps_ret (pv 5)))))))), ?_⟩
    have hpr := nu.ref
    -- rows = []
    refine ⟨by show 0 ≤ sizeLine; decide, fun R nR => ?_⟩
    have hpR : p ≠ R := by
      obtain ⟨l, e⟩ := hpr
      exact ne_of_none e nR
    refine ⟨_, rfl, (n : Int), rfl, by omega, by omega, ?_⟩
    rw [Int.toNat_natCast]
    refine for_it walk_range (fun i σ H2 => ∃ y3 y4, σ = [some (.ref p), some (.int n), some (.ref R), y3, y4, none, none, none, none, none] ∧ Off p H H2 ∧ NumAt H2 p ∧ ∃ l rs, H2 R = some (.lst l) ∧ rs.length = i ∧ Paired (LA p R H2) l rs ∧ ∀ j r, rs[j]? = some r → TriRow n j r) ⟨_, _, rfl, Same.off (same_upd nR), nu.same (same_upd nR), [], [], upd_same, rfl, .nil, fun j r h => by simp at h⟩ (fun _ _ _ _ _ => trivial) ?_ ?_
    · rintro i zz σ H2 H2' hi ⟨y3, y4, rfl, o2, nu2, l, rs, eR, lrs, hpl, htri⟩ ⟨rfl, rfl⟩
      refine ⟨_, rfl, 0 + (i : Int), rfl, by omega, by omega, fun D hD => ?_⟩
      have hpD : p ≠ D := by
        obtain ⟨l, e⟩ := nu2.ref
        exact ne_of_none e hD
      have hRD : R ≠ D := ne_of_none eR hD
      refine lc_val walk_range (by omega) (fun H4 => Off p H2' H4 ∧ NumAt H4 p) ⟨Same.off (same_upd hD), nu2.same (same_upd hD)⟩ (fun _ _ => trivial) ?_ (fun _ v => ∃ z : Int, v = V.int z ∧ z.natAbs ≤ 1) ?_ gm_name ?_
      · rintro H4 acc acc' ⟨o4, nu4⟩ _
        refine ⟨fun b u n h => ?_, nu4.upd_ne hpD⟩
        rw [upd_ne (ne_of_none h hD)]
        exact o4 _ _ n h
      · rintro k x H4 H4' acc Ko hk ⟨o4, nu4⟩ eD ⟨rfl, rfl⟩ kc
        refine ⟨rfl, ?_⟩
        refine ⟨_, rfl, p, 3, rfl, nu4, by decide, fun r H5 hr5 o5 nu5 => ⟨_, _, rfl, rfl, ?_⟩⟩
        have eD5 : H5 D = some (.lst acc) := o5 _ _ (Ne.symm hpD) eD
        exact kc _ _ ⟨Off.trans o4 o5, nu5⟩ eD5 ⟨(r : Int) - 1, rfl, by omega⟩
      · rintro H4 l2 ⟨o4, nu4⟩ eD hpl2
        obtain ⟨zs, rfl, lz, bz⟩ := vals_small hpl2
        rw [List.length_range] at lz
        have lz' : zs.length = i := by omega
        have eR4 := o4 _ _ (Ne.symm hpR) eR
        refine ⟨_, rfl, .inl ⟨rfl, _, .inl (.inl eR4)⟩, ?_⟩
        refine ⟨_, rfl, _, rfl, p, 4, rfl, nu4, by decide, fun r2 H5 hr5 o5 nu5 => ⟨rfl, .inr ⟨_, rfl, ⟨_, _, rfl, rfl, ?_⟩⟩⟩⟩
        obtain ⟨d, hd, hd2⟩ : ∃ d : Int, 1 + (if decide (V.int (r2 : Int) = V.int 0) = true then (1 : Int) else 0) = d ∧ (d = 1 ∨ d = 2) := ⟨_, rfl, by split <;> simp⟩
        dsimp only
        rw [hd]
        have eD5 := o5 _ _ (Ne.symm hpD) eD
        have eR5 := o5 _ _ (Ne.symm hpR) eR4
        refine ⟨by show 1 ≤ sizeLine; decide, fun p2 n2 => ?_⟩
        have s6 := same_upd (o := .lst [.int d]) n2
        have e6 : (upd H5 p2 (.lst [.int d])) p2 = some (.lst [.int d]) := upd_same
        generalize upd H5 p2 (.lst [.int d]) = H6 at s6 e6 ⊢
        refine ⟨D, p2, _, _, rfl, rfl, s6 _ _ eD5, e6, Nat.le_of_lt (small1000 (by rw [List.length_map, List.length_singleton]; omega)), fun p3 n3 => ?_⟩
        have s7 := same_upd (o := .lst (zs.map V.int ++ [.int d])) n3
        have e7 : (upd H6 p3 (.lst (zs.map V.int ++ [.int d]))) p3 = some (.lst (zs.map V.int ++ [.int d])) := upd_same
        generalize upd H6 p3 (.lst (zs.map V.int ++ [.int d])) = H7 at s7 e7 ⊢
        refine ⟨_, rfl, _, rfl, _, _, rfl, rfl, _, _, rfl, rfl, _, rfl, by omega, by omega, fun D3 hD3 => ?_⟩
        refine lc_all walk_range hD3 (by omega) (fun _ _ => trivial) (fun j v _ => ∃ z, (List.replicate (n - i - 1) (0 : Int))[j]? = some z ∧ v = .int z) (fun _ _ _ _ _ _ _ h => h) ?_ gm_name ?_
        · rintro j y2 H8 H8' acc2 Ko2 hj s8 eD2 ⟨rfl, rfl⟩ k2
          refine ⟨rfl, ?_⟩
          refine k2 _ _ (Same.refl _) ⟨0, ?_, rfl⟩
          rw [List.getElem?_replicate, if_pos (by omega)]
        · intro H8 l3 s8 eD3 hpl3
          have el := ints_list (by rw [List.length_replicate]; omega) hpl3
          subst el
          refine ⟨p3, D3, _, _, rfl, rfl, s8 _ _ e7, eD3, Nat.le_of_lt (small1000 (by simp only [List.length_append, List.length_map, List.length_replicate, List.length_singleton]; omega)), fun p4 n4 => ?_⟩
          have s58 := s6.trans (s7.trans s8)
          have o8 : Off p H2' H8 := Off.trans o4 (Off.trans o5 (Same.off s58))
          have nu8 := nu5.same s58
          have eR8 := s58 _ _ eR5
          have hp4 : p4 ≠ p := by
            obtain ⟨l, e⟩ := nu8.ref
            exact (ne_of_none e n4).symm
          have hR4 : p4 ≠ R := (ne_of_none eR8 n4).symm
          have s9 := same_upd (o := .lst (zs.map V.int ++ [.int d] ++ (List.replicate (n - i - 1) 0).map V.int)) n4
          have e9 : (upd H8 p4 (.lst (zs.map V.int ++ [.int d] ++ (List.replicate (n - i - 1) 0).map V.int))) p4 = some (.lst ((zs ++ [d] ++ List.replicate (n - i - 1) 0).map V.int)) := by
            rw [upd_same, List.map_append, List.map_append]
            rfl
          generalize upd H8 p4 (.lst (zs.map V.int ++ [.int d] ++ (List.replicate (n - i - 1) 0).map V.int)) = H9 at s9 e9 ⊢
          have lpl := Paired.length hpl
          refine ⟨R, l, _, rfl, rfl, s9 _ _ eR8, small1000 (by omega), ?_⟩
          refine ⟨_, _, rfl, fun b u nb h => ?_, (nu8.same s9).upd_ne hpR, l ++ [.ref p4], rs ++ [zs ++ [d] ++ List.replicate (n - i - 1) 0], upd_same, by rw [List.length_append, lrs]; rfl, ?_, ?_⟩
          · rw [upd_ne (ne_of_none h nR)]
            exact s9 _ _ (o8 _ _ nb (o2 _ _ nb h))
          · refine Paired.snoc (L2.Paired.mapP hpl fun _ _ h => LA.offR Off.upd (LA.same s9 (LA.offp o8 h))) ⟨p4, rfl, hp4, hR4, ?_⟩
            rw [upd_ne hR4]
            exact e9
          · intro j r hj
            by_cases h : j < i
            · rw [List.getElem?_append_left (by omega)] at hj
              exact htri j r hj
            · rw [List.getElem?_append_right (by omega)] at hj
              have hj0 : j - rs.length = 0 := by
                have := (List.getElem?_eq_some_iff.mp hj).1
                rw [List.length_singleton] at this
                omega
              rw [hj0] at hj
              cases hj
              have hji : j = i := by omega
              subst hji
              exact triRow_mk hi (by omega) bz hd2
    · rintro σ H2 ⟨y3, y4, rfl, o2, nu2, l, rs, eR, lrs, hpl, htri⟩
      have tri : Tri n rs := ⟨lrs, htri⟩
      have lpl := Paired.length hpl
      -- gram = []
      refine ⟨by show 0 ≤ sizeLine; decide, fun Gp nG => ?_⟩
      have hpG : p ≠ Gp := by
        obtain ⟨l, e⟩ := nu2.ref
        exact ne_of_none e nG
      have sG := same_upd (o := .lst []) nG
      refine ⟨_, rfl, R, l, rfl, .inl (.inl (.inl (sG _ _ eR))), fun J G0 W hG => ?_⟩
      refine for_it W (fun i σ H3 => ∃ y6, σ = [some (.ref p), some (.int n), some (.ref R), y3, y4, some (.ref Gp), y6, none, none, none] ∧ Same H2 H3 ∧ ∃ gl, H3 Gp = some (.lst gl) ∧ gl.Nodup ∧ (∀ q, V.ref q ∈ gl → H2 q = none) ∧ Paired (LA p Gp H3) gl ((gramM rs).take i)) ⟨_, rfl, sG, [], upd_same, List.nodup_nil, fun q h => (by cases h), by rw [List.take_zero]; exact .nil⟩ ?_ ?_ ?_
      · rintro i σ H3 hi ⟨y6, rfl, s3, _⟩
        refine hG H3 fun b hb o e => ?_
        have hbR : b = R := by simpa using hb
        rw [hbR] at e ⊢
        have : R ≠ Gp := ne_of_none eR nG
        rw [upd_ne this] at e
        exact s3 _ _ e
      · rintro i x σ H3 H3' hi ⟨y6, rfl, s3, gl, eG, nd, fresh, hgl⟩ ⟨rfl, ex⟩
        obtain ⟨r, er, q1, rfl, q1p, q1R, hq1⟩ := Paired.getR hpl ex
        have tr := htri i r er
        have eg := gramM_get er
        have lgl := Paired.length hgl
        rw [List.length_take, gramM_len, lrs] at lgl
        refine ⟨_, rfl, .inl ⟨rfl, _, .inl (.inl eG)⟩, ?_⟩
        refine ⟨_, rfl, R, l, rfl, .inl (.inl (.inl (s3 _ _ eR))), fun J2 G2 W2 hG2 D hD => ?_⟩
        refine lc_all W2 hD (by omega) (fun H4 s4 => hG2 H4 fun b _ o => s4 b o) (fun j v _ => ∃ z, (rs.map fun w => dotI r w)[j]? = some z ∧ v = .int z) (fun _ _ _ _ _ _ _ h => h) ?_ gm_name ?_
        · rintro j y H4 H4' acc Ko hj s4 eD ⟨rfl, ey⟩ kc
          obtain ⟨r2, er2, q2, rfl, q2p, q2R, hq2⟩ := Paired.getR hpl ey
          have tr2 := htri j r2 er2
          have s34 := s3.trans s4
          refine ⟨rfl, ?_⟩
          refine ⟨_, rfl, (n : Int), rfl, by omega, by omega, fun D2 hD2 => ?_⟩
          refine lc_all walk_range hD2 (by omega) (fun _ _ => trivial) (fun k v _ => ∃ z, (List.zipWith (· * ·) r r2)[k]? = some z ∧ v = .int z) (fun _ _ _ _ _ _ _ h => h) ?_ gm_name ?_
          · rintro k y2 H5 H5' acc2 Ko2 hk s5 eD2 ⟨rfl, rfl⟩ k2
            have e1 := getD_get (v := r) (i := k) (by rw [tr.len]; omega)
            have e2 := getD_get (v := r2) (i := k) (by rw [tr2.len]; omega)
            have s35 := s34.trans s5
            refine ⟨rfl, ?_⟩
            refine ⟨_, rfl, _, rfl, q1, _, _, _, rfl, rfl, .inl (.inl (s35 _ _ hq1)), at_of (j := k) (by omega) (ints_at e1), ?_⟩
            refine ⟨_, rfl, _, rfl, q2, _, _, _, rfl, rfl, .inl (.inl (s35 _ _ hq2)), at_of (j := k) (by omega) (ints_at e2), ?_⟩
            have b1 : (r.getD k 0).natAbs < 2 ^ 2 := Nat.lt_of_le_of_lt (tr.le2 _ (List.mem_of_getElem? e1)) (by decide)
            have b2 : (r2.getD k 0).natAbs < 2 ^ 2 := Nat.lt_of_le_of_lt (tr2.le2 _ (List.mem_of_getElem? e2)) (by decide)
            refine ⟨_, _, rfl, rfl, mulx_ok b1 b2 (by decide), ?_⟩
            refine k2 _ _ (Same.refl _) ⟨_, ?_, rfl⟩
            rw [List.getElem?_zipWith, e1, e2]
          · intro H5 l5 s5 eD2 hp5
            have el := ints_list (by rw [List.length_zipWith, tr.len, tr2.len]; omega) hp5
            refine ⟨D2, List.zipWith (· * ·) r r2, rfl, .inl (.inl (by rw [← el]; exact eD2)), ?_⟩
            refine kc _ _ s5 ⟨_, ?_, rfl⟩
            rw [List.getElem?_map, er2]
            rfl
        · intro H4 l4 s4 eD hp4
          have el := ints_list (by rw [List.length_map]; omega) hp4
          subst el
          have eG4 := s4 _ _ eG
          have hDG : D ≠ Gp := (ne_of_none eG hD).symm
          have hDp : D ≠ p := by
            obtain ⟨l, e⟩ := nu2.ref
            exact (ne_of_none (s3 _ _ e) hD).symm
          refine ⟨Gp, gl, _, rfl, rfl, eG4, small1000 (by omega), ?_⟩
          refine ⟨_, rfl, fun b o e => ?_, gl ++ [.ref D], upd_same, ?_, fun q hq => ?_, ?_⟩
          · rw [upd_ne (ne_of_none e nG)]
            exact s4 _ _ (s3 _ _ e)
          · refine List.nodup_append.mpr ⟨nd, by simp, fun a ha b hb => ?_⟩
            have hb' : b = .ref D := by simpa using hb
            rw [hb']
            rintro rfl
            obtain ⟨k, hk⟩ := List.getElem?_of_mem ha
            obtain ⟨r9, _, q9, e9, _, _, h9⟩ := Paired.getR hgl hk
            cases e9
            rw [h9] at hD
            cases hD
          · rcases List.mem_append.mp hq with h | h
            · exact fresh q h
            · have e9 : q = D := by simpa using h
              rw [e9]
              cases e : H2 D with
              | none => rfl
              | some o =>
                rw [s3 _ _ e] at hD
                cases hD
          · rw [List.take_add_one, eg]
            refine Paired.snoc (L2.Paired.mapP hgl fun _ _ h => LA.offR Off.upd (LA.same s4 h)) ⟨D, rfl, hDp, hDG, ?_⟩
            rw [upd_ne hDG]
            exact eD
      · rintro σ H3 ⟨y6, rfl, s3, gl, eG, nd, fresh, hgl⟩
        rw [List.take_of_length_le (by rw [gramM_len]; omega)] at hgl
        have nu3 := nu2.same s3
        have o3 : Off p H H3 := Off.trans o2 (Same.off s3)
        have lgl := Paired.length hgl
        rw [gramM_len, lrs] at lgl
        -- if _law_next(numbers, 4) == 0
        refine ⟨_, rfl, p, 4, rfl, nu3, by decide, fun r1 H4 hr1 o4 nu4 => ⟨rfl, _, rfl, ?_⟩⟩
        have eG4 := o4 _ _ (Ne.symm hpG) eG
        have hgl4 := L2.Paired.mapP hgl fun _ _ h => LA.offp o4 h
        have o04 := Off.trans o3 o4
        by_cases h0 : V.int (r1 : Int) = V.int 0
        · rw [decide_eq_true h0]
          refine iteT ?_
          obtain ⟨r, er⟩ : ∃ r, (gramM rs)[n - 1]? = some r := ⟨_, List.getElem?_eq_getElem (by rw [gramM_len]; omega)⟩
          obtain ⟨v, ev, qv, rfl, qvp, qvG, hqv⟩ := Paired.getL hgl4 er
          have g0 := gram_0 hn tri
          have hrl := g0.sq.row r (List.mem_of_getElem? er)
          have ee := getD_get (v := r) (i := n - 1) (by omega)
          have eent : r.getD (n - 1) 0 = ent (gramM rs) (n - 1) (n - 1) := by
            unfold ent
            rw [List.getD_eq_getElem?_getD (l := gramM rs), er]
            rfl
          refine ⟨_, rfl, _, rfl, _, _, rfl, rfl, Gp, _, _, _, rfl, rfl, .inl (.inl eG4), at_of (j := n - 1) (by omega) ev, _, rfl, _, _, rfl, rfl, qv, _, _, _, rfl, rfl, .inl (.inl hqv), at_of (j := n - 1) (by omega) (ints_at ee), _, _, rfl, rfl, ?_⟩
          refine ⟨_, rfl, p, 2, rfl, nu4, by decide, fun r2 H5 hr2 o5 nu5 => ⟨_, _, rfl, rfl, ?_⟩⟩
          have eG5 := o5 _ _ (Ne.symm hpG) eG4
          have hgl5 := L2.Paired.mapP hgl4 fun _ _ h => LA.offp o5 h
          have hqv5 := o5 _ _ qvp hqv
          refine ⟨_, rfl, _, rfl, _, _, rfl, rfl, Gp, _, _, _, rfl, rfl, .inl (.inl eG5), at_of (j := n - 1) (by omega) ev, _, rfl, _, _, rfl, rfl, qv, _, _, n - 1, rfl, rfl, hqv5, ?_, ?_⟩
          · have := ixN_nat (n := (r.map V.int).length) (k := n - 1) (by rw [List.length_map]; omega)
            rw [← this]
            congr 1
            omega
          · refine ⟨_, rfl, ?_⟩
            have eset : (r.map V.int).set (n - 1) (V.int (r.getD (n - 1) 0 + 1 + (r2 : Int))) = (r.set (n - 1) (ent (gramM rs) (n - 1) (n - 1) + (1 + (r2 : Int)))).map V.int := by
              rw [List.map_set, eent, Int.add_assoc]
            show Q (.ref Gp) (upd H5 qv (.lst ((r.map V.int).set (n - 1) (V.int (r.getD (n - 1) 0 + 1 + (r2 : Int))))))
            rw [eset]
            refine q (.ref Gp) (1 + (r2 : Int)) rs _ _ (fun b o nb e => ?_) (nu5.upd_ne (Ne.symm qvp)) ⟨Gp, gl, rfl, Ne.symm hpG, by rw [upd_ne (Ne.symm qvG)]; exact eG5, L2.Paired.mapP (la_upd hgl5 nd ev) fun _ _ ⟨q9, e9, n9, _, h9⟩ => ⟨q9, e9, n9, n9, h9⟩⟩ tri ⟨by omega, by omega⟩ (gram_e hn hn0 tri ⟨by omega, by omega⟩ er)
            rw [upd_ne]
            · exact o5 _ _ nb (o04 _ _ nb e)
            · rintro rfl
              have := fresh _ (List.mem_of_getElem? ev)
              rw [o2 _ _ nb e] at this
              cases this
        · rw [decide_eq_false h0]
          refine iteF ?_
          exact ⟨_, rfl, q (.ref Gp) 0 rs _ _ o04 nu4 ⟨Gp, gl, rfl, Ne.symm hpG, eG4, L2.Paired.mapP hgl4 fun _ _ ⟨q9, e9, n9, _, h9⟩ => ⟨q9, e9, n9, n9, h9⟩⟩ tri ⟨by omega, by omega⟩ (gram_0 hn tri)⟩
theorem cal_law_gram (T : Top K mg) (hN : base.NoSeer) (hT : P.given.tree = none) : Cal P w K mg base 2 "_law_gram" sp_law_gram [] := ⟨⟨_, _, _, [], ok_law_gram T hN hT, T.g_law_gram, T.F_law_gram.kp, T.b_law_gram, .nil⟩⟩

end
end K14
namespace K14
open PySem PySem.Spec PyProof.Rows L2 Gm
open C8 (Cal Met Mak pe_c pe_mt pe_mt0 pe_mk)
section
variable {P : Program} {w : World} {K : PySem.W.Frag} {mg : Str → Option Value} {base : Heap}
/-! ### tail_matrix -/
def riL (m : List (List Int)) (s : Nat) : List (List Int) := (m.take s).map fun r => r.drop s
def loL (m : List (List Int)) (s : Nat) : List (List Int) := (m.drop s).map fun r => r.drop s
def tailM (m : List (List Int)) (n s : Nat) : List (List Int) :=
  zipM (fun x y => x - y) (scaleM (bare s 1 1 (upL m s)) (loL m s)) (mulM (mulM (transp (riL m s) (n - s)) (adjM (s - 1) (upL m s)) s) (riL m s) (n - s))
theorem riL_len {n B s : Nat} {m : List (List Int)} (h : Sq n B m) (hs : s ≤ n) : (riL m s).length = s := by unfold riL; rw [List.length_map, List.length_take, h.len]; omega
theorem loL_len {n B s : Nat} {m : List (List Int)} (h : Sq n B m) : (loL m s).length = n - s := by unfold loL; rw [List.length_map, List.length_drop, h.len]
theorem riL_row {n B s : Nat} {m : List (List Int)} (h : Sq n B m) : ∀ r ∈ riL m s, r.length = n - s := fun r hr => by
  obtain ⟨r', hr', rfl⟩ := List.mem_map.mp hr
  rw [List.length_drop, h.row r' (List.mem_of_mem_take hr')]
theorem loL_row {n B s : Nat} {m : List (List Int)} (h : Sq n B m) : ∀ r ∈ loL m s, r.length = n - s := fun r hr => by
  obtain ⟨r', hr', rfl⟩ := List.mem_map.mp hr
  rw [List.length_drop, h.row r' (List.mem_of_mem_drop hr')]
theorem riL_bits {n B s : Nat} {m : List (List Int)} (h : Sq n B m) : ∀ r ∈ riL m s, Bits B r := fun r hr => by
  obtain ⟨r', hr', rfl⟩ := List.mem_map.mp hr
  exact fun x hx => h.bits r' (List.mem_of_mem_take hr') x (List.mem_of_mem_drop hx)
theorem loL_bits {n B s : Nat} {m : List (List Int)} (h : Sq n B m) : ∀ r ∈ loL m s, Bits B r := fun r hr => by
  obtain ⟨r', hr', rfl⟩ := List.mem_map.mp hr
  exact fun x hx => h.bits r' (List.mem_of_mem_drop hr') x (List.mem_of_mem_drop hx)
theorem bare_bits {n : Nat} {m : List (List Int)} (hn : n ≤ 4) (h : Sq n 8 m) : (bare n 1 1 m).natAbs < 2 ^ 65 := by
  rw [bare_det hn h.sz]
  refine Nat.lt_of_lt_of_le (detL_le (by omega) h) (Nat.pow_le_pow_right (by decide) ?_)
  omega
theorem adjM_bits {n : Nat} {m : List (List Int)} (hn : n ≤ 4) (h : Sq n 8 m) : ∀ r ∈ adjM (n - 1) m, Bits 65 r := fun r hr x hx => by
  have hl := h.len
  unfold adjM at hr
  obtain ⟨i, hi, rfl⟩ := List.mem_map.mp hr
  obtain ⟨j, hj, rfl⟩ := List.mem_map.mp hx
  have hi' := List.mem_range.mp hi
  have hj' := List.mem_range.mp hj
  obtain ⟨n', rfl⟩ : ∃ n', n = n' + 1 := ⟨n - 1, by omega⟩
  have hb := bare_bits (by omega) (cutM_sq h (i := j) (j := i) (by omega) (by omega))
  show (sminor n' m j i).natAbs < _
  unfold sminor
  split
  · rw [Int.natAbs_neg]
    exact hb
  · exact hb
theorem dot_bits' {B1 B2 : Nat} {xs ys : List Int} (h1 : Bits B1 xs) (h2 : Bits B2 ys) (hl : xs.length ≤ 4) : (dotI xs ys).natAbs < 2 ^ (B1 + B2 + 3) := by
  have h : (dotI xs ys).natAbs ≤ (List.zipWith (· * ·) xs ys).length * (2 ^ B1 * 2 ^ B2) := by
    refine sum_le fun z hz => ?_
    obtain ⟨k, hk⟩ := List.getElem?_of_mem hz
    rw [List.getElem?_zipWith] at hk
    cases e1 : xs[k]? with
    | none => rw [e1] at hk; cases hk
    | some a =>
      cases e2 : ys[k]? with
      | none => rw [e1, e2] at hk; cases hk
      | some b =>
        rw [e1, e2] at hk
        rw [← Option.some.inj hk, Int.natAbs_mul]
        exact Nat.mul_le_mul (Nat.le_of_lt (h1.at e1)) (Nat.le_of_lt (h2.at e2))
  have h3 : (List.zipWith (· * ·) xs ys).length ≤ 4 := by
    rw [List.length_zipWith]
    omega
  have h4 : (List.zipWith (· * ·) xs ys).length * (2 ^ B1 * 2 ^ B2) ≤ 4 * (2 ^ B1 * 2 ^ B2) := Nat.mul_le_mul_right _ h3
  have h5 : 2 ^ (B1 + B2 + 3) = 8 * (2 ^ B1 * 2 ^ B2) := by
    rw [Nat.pow_add, Nat.pow_add, Nat.mul_comm]
  have h6 : 0 < 2 ^ B1 * 2 ^ B2 := Nat.mul_pos (Nat.two_pow_pos _) (Nat.two_pow_pos _)
  omega
theorem mulM_bits {a b : List (List Int)} {w B1 B2 : Nat} (ha : ∀ r ∈ a, Bits B1 r) (hl : ∀ r ∈ a, r.length ≤ 4) (hb : ∀ r ∈ b, Bits B2 r) (hw : ∀ r ∈ b, r.length = w) : ∀ r ∈ mulM a b w, Bits (B1 + B2 + 3) r := fun r hr x hx => by
  obtain ⟨y, hy, rfl⟩ := List.mem_map.mp hr
  obtain ⟨c, hc, rfl⟩ := List.mem_map.mp hx
  exact dot_bits' (ha y hy) (transp_bits hw hb c hc) (hl y hy)
theorem make_grid2 {K : PySem.W.Frag} {C x dx : Addr} {H1 : Hp} {v : V} {m : List (List Int)} {w : Nat} {Q : VK} {E : XK} (nx : H1 x = none) (nd : H1 dx = none) (hm : IRows K H1 v m) (hl : m.length ≤ 1000) (hw : w ≤ 1000) (hrw : ∀ r ∈ m, r.length = w) (q : ∀ H', Same H1 H' → IsGrid K C H' (.ref x) m w → Q .non H') :
    sp_Grid_init K C [.ref x, v, .int w] (upd (upd H1 dx (.own x)) x (.ins C dx [])) Q E := by
  have s0 : Same H1 (upd (upd H1 dx (.own x)) x (.ins C dx [])) := fun b o e => by
    rw [upd_ne (ne_of_none e nx), upd_ne (ne_of_none e nd)]
    exact e
  refine ⟨x, dx, v, m, w, rfl, upd_same, hm.same s0, hl, hw, hrw, fun t H' o ho ht => ?_⟩
  exact q _ (fun b u e => o _ _ (ne_of_none e nx) (s0 _ _ e)) ⟨⟨x, dx, t, rfl, ho, ht⟩, hrw⟩
theorem mul_grid {K : PySem.W.Frag} {C : Addr} {H : Hp} {u v : V} {m1 m2 : List (List Int)} {w1 w2 B1 B2 : Nat} {Q : VK} (G1 : IsGrid K C H u m1 w1) (G2 : IsGrid K C H v m2 w2) (e : w1 = m2.length) (l1 : m1.length ≤ 1000) (l2 : m2.length ≤ 1000) (l3 : w2 ≤ 1000) (b1 : ∀ r ∈ m1, Bits B1 r) (b2 : ∀ r ∈ m2, Bits B2 r) (hB : B1 + B2 ≤ 134217728)
    (q : ∀ g H', Same H H' → IsGrid K C H' g (mulM m1 m2 w2) w2 → Q g H') : rOwnBin C (sp_Grid_mul K C) L2.E0 u v H Q := by
  obtain ⟨⟨p1, d1, t1, rfl, h1, _⟩, _⟩ := id G1
  obtain ⟨⟨p2, d2, t2, rfl, h2, _⟩, _⟩ := id G2
  exact ⟨p1, p2, d1, d2, _, _, rfl, rfl, h1, h2, _, m1, w1, _, m2, w2, B1, B2, rfl, G1, G2, e, l1, l2, l3, b1, b2, hB, q⟩
theorem sub_grid {K : PySem.W.Frag} {C : Addr} {H : Hp} {u v : V} {m1 m2 : List (List Int)} {w : Nat} {Q : VK} (G1 : IsGrid K C H u m1 w) (G2 : IsGrid K C H v m2 w) (e : m1.length = m2.length) (l1 : m1.length ≤ 1000) (l3 : w ≤ 1000)
    (q : ∀ g H', Same H H' → IsGrid K C H' g (zipM (fun x y => x - y) m1 m2) w → Q g H') : rOwnBin C (sp_Grid_sub K C) L2.E0 u v H Q := by
  obtain ⟨⟨p1, d1, t1, rfl, h1, _⟩, _⟩ := id G1
  obtain ⟨⟨p2, d2, t2, rfl, h2, _⟩, _⟩ := id G2
  exact ⟨p1, p2, d1, d2, _, _, rfl, rfl, h1, h2, _, m1, w, _, m2, rfl, G1, G2, e, l1, l3, q⟩
def sp_tail_matrix (K : PySem.W.Frag) (C : Addr) : Sp := fun vs H Q _ => ∃ (g : V) (m : List (List Int)) (n s : Nat), vs = [g, .int ((s + 1 : Nat) : Int)] ∧ IsGrid K C H g m n ∧ Sq n 8 m ∧ n ≤ 4 ∧ s < n ∧ ∀ g' H', Same H H' → IsGrid K C H' g' (tailM m n s) (n - s) → Q g' H'
theorem ok_tail_matrix (T : Top K mg) (hN : base.NoSeer) (hT : P.given.tree = none) : FnOk P w K mg base CX0 47 T.a_tail_matrix T.d_tail_matrix ["gram", "k"] (sp_tail_matrix K T.C_Grid) := by
  refine T.F_tail_matrix.ok sc_tail_matrix (fun vs H Q E h => ?_) (fun cdv A outer s0 H vs Q E hr h => ?_)
  · obtain ⟨g, m, n, s, rfl, _⟩ := h
    rfl
  · obtain ⟨g, m, n, s, rfl, G, sq, hn, hs, q⟩ := h
    obtain ⟨⟨p, dx, t, rfl, ho, ht⟩, hrw⟩ := id G
    obtain ⟨qr, ws, rfl, hq, hp⟩ := id ht
    refine ⟨_, (pss_cons (ps_set (i := 2) sc_tail_matrix.nd rfl (by first | exact .inl rfl | exact .inr rfl) (pe_op op_sub (pv 1) pe_int))
      (pss_cons (ps_par (i := 3) (j := 4) (by rfl) sc_tail_matrix.nd rfl rfl (by decide) rfl rfl (pa_cons (pe_slice (slTK K rfl) (fldK K rfl (pv 0) rfl) po_none (po_some (pv 2))) (pa_cons (pe_slice (slTK K rfl) (fldK K rfl (pv 0) rfl) (po_some (pv 2)) po_none) pa_nil)) (by rfl))
      (pss_cons (ps_set (i := 5) sc_tail_matrix.nd rfl (by first | exact .inl rfl | exact .inr rfl) (pe_mk (mak_Grid T hN hT) hr (by decide) (by rfl) (pa_cons (pe_lc (own := [("row", 8)]) (g := (gName 8)) (by rfl) sc_tail_matrix.nd (piS K rfl (pv 3)) ((by show BlkOk ["gram", "k", "size", "high", "low", "a", "b", "c", "row"] (defScope s_tail_matrix) _ _; exact blkOk_by (by decide +kernel))) (fun _ _ _ _ _ => (pg_name (i := 8) sc_tail_matrix.nd rfl (by first | exact .inl rfl | exact .inr rfl))) (fun _ _ _ _ _ => pts_nil) (fun _ _ _ _ _ => (pe_slice (slTK K rfl) (pv 8) po_none (po_some (pv 2))))) (pa_cons (pv 2) pa_nil))))
      (pss_cons (ps_set (i := 6) sc_tail_matrix.nd rfl (by first | exact .inl rfl | exact .inr rfl) (pe_mk (mak_Grid T hN hT) hr (by decide) (by rfl) (pa_cons (pe_lc (own := [("row", 8)]) (g := (gName 8)) (by rfl) sc_tail_matrix.nd (piS K rfl (pv 3)) ((by show BlkOk ["gram", "k", "size", "high", "low", "a", "b", "c", "row"] (defScope s_tail_matrix) _ _; exact blkOk_by (by decide +kernel))) (fun _ _ _ _ _ => (pg_name (i := 8) sc_tail_matrix.nd rfl (by first | exact .inl rfl | exact .inr rfl))) (fun _ _ _ _ _ => pts_nil) (fun _ _ _ _ _ => (pe_slice (slTK K rfl) (pv 8) (po_some (pv 2)) po_none))) (pa_cons (pe_op op_sub (fldK K rfl (pv 0) rfl) (pv 2)) pa_nil))))
      (pss_cons (ps_set (i := 7) sc_tail_matrix.nd rfl (by first | exact .inl rfl | exact .inr rfl) (pe_mk (mak_Grid T hN hT) hr (by decide) (by rfl) (pa_cons (pe_lc (own := [("row", 8)]) (g := (gName 8)) (by rfl) sc_tail_matrix.nd (piS K rfl (pv 4)) ((by show BlkOk ["gram", "k", "size", "high", "low", "a", "b", "c", "row"] (defScope s_tail_matrix) _ _; exact blkOk_by (by decide +kernel))) (fun _ _ _ _ _ => (pg_name (i := 8) sc_tail_matrix.nd rfl (by first | exact .inl rfl | exact .inr rfl))) (fun _ _ _ _ _ => pts_nil) (fun _ _ _ _ _ => (pe_slice (slTK K rfl) (pv 8) (po_some (pv 2)) po_none))) (pa_cons (pe_op op_sub (fldK K rfl (pv 0) rfl) (pv 2)) pa_nil))))
      (pss_one (ps_ret (pe_op ((op_ownBin (op := .Sub) (E := L2.E0) T.sf_Grid T.m_Grid_sub.at_ T.m_Grid_sub.fn (ok_Grid_sub T hN hT) (hr.mono (by decide)) T.b_Grid_sub pass0)) (pe_mt (met_Grid_scaled T hN hT) hr (by decide) (pv 7) (pa_cons (pe_mt0 (met_Grid_determinant T hN hT) hr (by decide) (pv 5)) pa_nil)) (pe_op ((op_ownBin (op := .Mult) (E := L2.E0) T.sf_Grid T.m_Grid_mul.at_ T.m_Grid_mul.fn (ok_Grid_mul T hN hT) (hr.mono (by decide)) T.b_Grid_mul pass0)) (pe_op ((op_ownBin (op := .Mult) (E := L2.E0) T.sf_Grid T.m_Grid_mul.at_ T.m_Grid_mul.fn (ok_Grid_mul T hN hT) (hr.mono (by decide)) T.b_Grid_mul pass0)) (pe_mt0 (met_Grid_transposed T hN hT) hr (by decide) (pv 6)) (pe_mt0 (met_Grid_adjugate T hN hT) hr (by decide) (pv 5))) (pv 6)))))))))), ?_⟩
    refine ⟨_, rfl, _, _, rfl, rfl, ?_⟩
    have e1 : (((s + 1 : Nat) : Int) - 1) = (s : Int) := by omega
    have eW : ((n : Int) - (s : Int)) = ((n - s : Nat) : Int) := by omega
    have sqU := upL_sq sq (Nat.le_of_lt hs)
    have lup := sqU.len
    have lri := riL_len sq (Nat.le_of_lt hs)
    have llo := loL_len (s := s) sq
    have lm := sq.len
    have lws := Paired.length hp
    dsimp only
    rw [e1]
    refine ⟨_, rfl, p, _, dx, _, _, rfl, ho, T.cl_Grid, T.n_rows, flds_rows _ _, _, rfl, (s : Int), rfl, ?_⟩
    refine (show rSlA K (.ref qr) none (some (s : Int)) H _ from ?_)
    refine slA_take hq s fun ph HH sH th0 => ?_
    refine ⟨_, rfl, p, _, dx, _, _, rfl, sH _ _ ho, T.cl_Grid, T.n_rows, flds_rows _ _, _, rfl, (s : Int), rfl, ?_⟩
    dsimp only [tNoPart]
    refine slA_drop (Same.seqT sH hq) s fun pl HL sL tl => ?_
    have sHL := sH.trans sL
    have th := Same.seqT sL th0
    have hph := paired_take s (L2.Paired.mapP hp fun _ _ => TRow.same sHL)
    have hpl2 := paired_drop s (L2.Paired.mapP hp fun _ _ => TRow.same sHL)
    have lwh : (ws.take s).length = s := by rw [List.length_take, lws, lm]; omega
    have lwl : (ws.drop s).length = n - s := by rw [List.length_drop, lws, lm]
    refine ⟨_, _, rfl, ?_⟩
    refine ⟨_, rfl, ph, _, rfl, .inr th, fun J G0 W hG D hD => ?_⟩
    refine lc_all W hD (by omega) (fun H4 s4 => hG H4 fun b _ o => s4 b o) (fun i v H4 => ∃ r, (upL m s)[i]? = some r ∧ TRow K H4 v r) (fun i v H4 H5 acc e o ⟨r, er, h⟩ => ⟨r, er, TRow.off e o h⟩) ?_ gm_name ?_
    · rintro i zz H4 H4' acc Ko hi s4 eD ⟨rfl, ex⟩ kc
      obtain ⟨r, er, c, rfl, hc⟩ := Paired.getR hph ex
      refine ⟨rfl, ?_⟩
      refine ⟨_, rfl, _, rfl, (s : Int), rfl, ?_⟩
      refine slA_take (Same.seqT s4 hc) s fun p2 H5 s5 t5 => ?_
      refine kc _ _ s5 ⟨r.take s, by unfold upL; rw [List.getElem?_map, er]; rfl, p2, rfl, ?_⟩
      rw [List.map_take]
      exact t5
    · intro Ha0 l sa0 eD hpl
      have hrows : IRows K Ha0 (.ref D) (upL m s) := ⟨D, l, rfl, .inl (.inl (.inl eD)), L2.Paired.mapP (paired_at (m := upL m s) (by omega) hpl) fun _ _ => TRow.row⟩
      refine ⟨_, rfl, ?_⟩
      intro xa da nxa nda nea
      refine make_grid2 (C := T.C_Grid) (m := upL m s) (w := s) nxa nda hrows (by omega) (by omega) sqU.row fun Ha sa Ga => ⟨rfl, ?_⟩
      have th2 := Same.seqT (sa0.trans sa) th
      have hph2 := L2.Paired.mapP hph fun _ _ => TRow.same (sa0.trans sa)
      refine ⟨_, rfl, ph, _, rfl, .inr th2, fun J G0 W hG D hD => ?_⟩
      refine lc_all W hD (by omega) (fun H4 s4 => hG H4 fun b _ o => s4 b o) (fun i v H4 => ∃ r, (riL m s)[i]? = some r ∧ TRow K H4 v r) (fun i v H4 H5 acc e o ⟨r, er, h⟩ => ⟨r, er, TRow.off e o h⟩) ?_ gm_name ?_
      · rintro i zz H4 H4' acc Ko hi s4 eD ⟨rfl, ex⟩ kc
        obtain ⟨r, er, c, rfl, hc⟩ := Paired.getR hph2 ex
        refine ⟨rfl, ?_⟩
        refine ⟨_, rfl, _, rfl, (s : Int), rfl, ?_⟩
        dsimp only [tNoPart]
        refine slA_drop (Same.seqT s4 hc) s fun p2 H5 s5 t5 => ?_
        refine kc _ _ s5 ⟨r.drop s, by unfold riL; rw [List.getElem?_map, er]; rfl, p2, rfl, ?_⟩
        rw [List.map_drop]
        exact t5
      · intro Hb0 l sb0 eD hpl
        have hrows : IRows K Hb0 (.ref D) (riL m s) := ⟨D, l, rfl, .inl (.inl (.inl eD)), L2.Paired.mapP (paired_at (m := riL m s) (by omega) hpl) fun _ _ => TRow.row⟩
        refine ⟨_, rfl, p, _, dx, _, _, rfl, (((sHL.trans (sa0.trans sa)).trans sb0) _ _ ho), T.cl_Grid, T.n_width, flds_width _ _, _, rfl, _, _, rfl, rfl, ?_⟩
        dsimp only
        rw [eW]
        intro xb db nxb ndb neb
        refine make_grid2 (C := T.C_Grid) (m := riL m s) (w := (n - s)) nxb ndb hrows (by omega) (by omega) (riL_row sq) fun Hb sb Gb => ⟨rfl, ?_⟩
        have tl3 := Same.seqT ((sa0.trans sa).trans (sb0.trans sb)) tl
        have hpl3 := L2.Paired.mapP hpl2 fun _ _ => TRow.same ((sa0.trans sa).trans (sb0.trans sb))
        refine ⟨_, rfl, pl, _, rfl, .inr tl3, fun J G0 W hG D hD => ?_⟩
        refine lc_all W hD (by omega) (fun H4 s4 => hG H4 fun b _ o => s4 b o) (fun i v H4 => ∃ r, (loL m s)[i]? = some r ∧ TRow K H4 v r) (fun i v H4 H5 acc e o ⟨r, er, h⟩ => ⟨r, er, TRow.off e o h⟩) ?_ gm_name ?_
        · rintro i zz H4 H4' acc Ko hi s4 eD ⟨rfl, ex⟩ kc
          obtain ⟨r, er, c, rfl, hc⟩ := Paired.getR hpl3 ex
          refine ⟨rfl, ?_⟩
          refine ⟨_, rfl, _, rfl, (s : Int), rfl, ?_⟩
          dsimp only [tNoPart]
          refine slA_drop (Same.seqT s4 hc) s fun p2 H5 s5 t5 => ?_
          refine kc _ _ s5 ⟨r.drop s, by unfold loL; rw [List.getElem?_map, er]; rfl, p2, rfl, ?_⟩
          rw [List.map_drop]
          exact t5
        · intro Hc0 l sc0 eD hpl
          have hrows : IRows K Hc0 (.ref D) (loL m s) := ⟨D, l, rfl, .inl (.inl (.inl eD)), L2.Paired.mapP (paired_at (m := loL m s) (by omega) hpl) fun _ _ => TRow.row⟩
          refine ⟨_, rfl, p, _, dx, _, _, rfl, (((sHL.trans ((sa0.trans sa).trans (sb0.trans sb))).trans sc0) _ _ ho), T.cl_Grid, T.n_width, flds_width _ _, _, rfl, _, _, rfl, rfl, ?_⟩
          dsimp only
          rw [eW]
          intro xc dc nxc ndc nec
          refine make_grid2 (C := T.C_Grid) (m := loL m s) (w := (n - s)) nxc ndc hrows (by omega) (by omega) (loL_row sq) fun Hc sc Gc => ⟨rfl, ?_⟩
          have sac := ((sb0.trans sb).trans (sc0.trans sc))
          have sbc := sc0.trans sc
          have Ga1 := IsGrid.same sac Ga
          have Gb1 := IsGrid.same sbc Gb
          obtain ⟨⟨pc, ec, tc, ecc, hoc, _⟩, _⟩ := id Gc
          cases ecc
          obtain ⟨⟨pa, ea, ta, eaa, hoa, _⟩, _⟩ := id Ga1
          cases eaa
          obtain ⟨⟨pb, eb, tb, ebb, hob, _⟩, _⟩ := id Gb1
          cases ebb
          refine ⟨_, rfl, xc, _, _, rfl, hoc, m_scaled _ _, _, rfl, xa, _, _, rfl, hoa, m_determinant _ _, _, _, s, 8, rfl, Ga1, sqU, by omega, by decide, fun H1 s1 => ?_⟩
          have Gc1 := IsGrid.same s1 Gc
          refine ⟨_, loL m s, n - s, _, 65, 8, rfl, Gc1, by omega, by omega, bare_bits (by omega) sqU, loL_bits sq, by decide, fun g2 H2 s2 G2 => ?_⟩
          have s12 := s1.trans s2
          refine ⟨_, rfl, xb, _, _, rfl, s12 _ _ hob, m_transposed _ _, _, riL m s, n - s, rfl, IsGrid.same s12 Gb1, by omega, by omega, fun g3 H3 s3 G3 => ?_⟩
          have s13 := s12.trans s3
          refine ⟨_, rfl, xa, _, _, rfl, s13 _ _ hoa, m_adjugate _ _, _, _, s, 8, rfl, IsGrid.same s13 Ga1, sqU, by omega, by decide, fun g4 H4 s4 G4 => ?_⟩
          rw [lri] at G3
          have ltr := transp_len (riL m s) (n - s)
          have btr := transp_bits (riL_row (s := s) sq) (riL_bits (s := s) sq)
          have ladj : (adjM (s - 1) (upL m s)).length = s := by rw [adjM_len, lup]
          refine mul_grid (IsGrid.same s4 G3) G4 ladj.symm (by omega) (by omega) (by omega) btr (adjM_bits (by omega) sqU) (by decide) fun g5 H5 s5 G5 => ?_
          have s15 := s13.trans (s4.trans s5)
          have l5 := mulM_len (transp (riL m s) (n - s)) (adjM (s - 1) (upL m s)) s
          refine ⟨_, rfl, mul_grid G5 (IsGrid.same s15 Gb1) lri.symm (by omega) (by omega) (by omega) (mulM_bits btr (fun r hr => by rw [transp_row r hr]; omega) (adjM_bits (by omega) sqU) (fun r hr => by rw [adjM_row r hr, lup])) (riL_bits sq) (by decide) fun g6 H6 s6 G6 => ?_⟩
          have l6 := mulM_len (mulM (transp (riL m s) (n - s)) (adjM (s - 1) (upL m s)) s) (riL m s) (n - s)
          refine sub_grid (IsGrid.same (s3.trans (s4.trans (s5.trans s6))) G2) G6 (by rw [scaleM_len]; omega) (by rw [scaleM_len]; omega) (by omega) fun g7 H7 s7 G7 => ?_
          exact q g7 H7 (sHL.trans ((sa0.trans sa).trans (sac.trans (s15.trans (s6.trans s7))))) G7
theorem cal_tail_matrix (T : Top K mg) (hN : base.NoSeer) (hT : P.given.tree = none) : Cal P w K mg base 47 "tail_matrix" (sp_tail_matrix K T.C_Grid) [] := ⟨⟨_, _, _, [], ok_tail_matrix T hN hT, T.g_tail_matrix, T.F_tail_matrix.kp, T.b_tail_matrix, .nil⟩⟩

end
end K14
namespace K14
open PySem PySem.Spec PyProof.Rows L2 Gm
open C8 (Cal Met Mak pe_c pe_mt pe_mt0 pe_mk)
section
variable {P : Program} {w : World} {K : PySem.W.Frag} {mg : Str → Option Value} {base : Heap}
/-! ### the tail matrix: what is asked of it -/
theorem bareE0 : bare 0 1 1 [] = 1 := rfl
theorem bareE1 (a : Int) : bare 1 1 1 [[a]] = a := (bare_det (n := 1) (m := [[a]]) (by decide) ⟨rfl, by simp⟩).trans (detL1 a)
theorem bareE2 (a b c d : Int) : bare 2 1 1 [[a, b], [c, d]] = D2 a b c d := (bare_det (n := 2) (m := [[a, b], [c, d]]) (by decide) ⟨rfl, by simp⟩).trans (detL2 a b c d)
theorem bareE3 (a b c d e f g k l : Int) : bare 3 1 1 [[a, b, c], [d, e, f], [g, k, l]] = D3 a b c d e f g k l := (bare_det (n := 3) (m := [[a, b, c], [d, e, f], [g, k, l]]) (by decide) ⟨rfl, by simp⟩).trans (detL3 a b c d e f g k l)
theorem adjE1 (a : Int) : adjM 0 [[a]] = [[1]] := rfl
theorem adjE2 (a b c d : Int) : adjM 1 [[a, b], [c, d]] = [[d, -b], [-c, a]] := by
  simp [adjM, sminor, cutM, List.range_succ, bareE1]
theorem adjE3 (a b c d e f g k l : Int) : adjM 2 [[a, b, c], [d, e, f], [g, k, l]] = [[D2 e f k l, -D2 b c k l, D2 b c e f], [-D2 d f g l, D2 a c g l, -D2 a c d f], [D2 d e g k, -D2 a b g k, D2 a b d e]] := by
  simp [adjM, sminor, cutM, List.range_succ, bareE2]
theorem dot0 : dotI [] [] = 0 := rfl
theorem dot1 (a x : Int) : dotI [a] [x] = a * x + 0 := rfl
theorem dot2 (a b x y : Int) : dotI [a, b] [x, y] = a * x + (b * y + 0) := rfl
theorem dot3 (a b c x y z : Int) : dotI [a, b, c] [x, y, z] = a * x + (b * y + (c * z + 0)) := rfl
theorem sandwich {mm val nrm q1 q2 : Int} (hm : 0 < mm) (h1 : mm * val = q1) (h2 : mm * (mm * nrm - val) = q2) (hq1 : 0 ≤ q1) (hq2 : 0 ≤ q2) : 0 ≤ val ∧ val ≤ mm * nrm := by
  constructor
  · rcases Int.lt_or_le val 0 with h | h
    · have := Int.mul_neg_of_pos_of_neg hm h
      omega
    · exact h
  · rcases Int.lt_or_le (mm * nrm - val) 0 with h | h
    · have := Int.mul_neg_of_pos_of_neg hm h
      omega
    · omega
theorem core1 (a r1 U1 mm cc x : Int) (hm : 0 < mm) (h1 : a * U1 = mm * r1) (psd : ∀ t1 l : Int, 0 ≤ a * t1 * t1 + 2 * l * (t1 * r1) + l * l * cc) :
    0 ≤ mm * cc - r1 * U1 ∧ mm * cc - r1 * U1 ≤ mm * (a * x * x + 2 * (x * r1) + cc) := by
  refine sandwich hm (q1 := a * (-U1) * (-U1) + 2 * mm * ((-U1) * r1) + mm * mm * cc) (q2 := a * (mm * x + U1) * (mm * x + U1) + 2 * 0 * ((mm * x + U1) * r1) + 0 * 0 * cc) ?_ ?_ (psd _ _) (psd _ _)
  · grind
  · grind
theorem core2 (a b f r1 r2 U1 U2 mm cc x y : Int) (hm : 0 < mm) (h1 : a * U1 + b * U2 = mm * r1) (h2 : b * U1 + f * U2 = mm * r2) (psd : ∀ t1 t2 l : Int, 0 ≤ a * t1 * t1 + f * t2 * t2 + 2 * (b * t1 * t2) + 2 * l * (t1 * r1 + t2 * r2) + l * l * cc) :
    0 ≤ mm * cc - (r1 * U1 + r2 * U2) ∧ mm * cc - (r1 * U1 + r2 * U2) ≤ mm * (a * x * x + f * y * y + 2 * (b * x * y) + 2 * (x * r1 + y * r2) + cc) := by
  refine sandwich hm (q1 := a * (-U1) * (-U1) + f * (-U2) * (-U2) + 2 * (b * (-U1) * (-U2)) + 2 * mm * ((-U1) * r1 + (-U2) * r2) + mm * mm * cc) (q2 := a * (mm * x + U1) * (mm * x + U1) + f * (mm * y + U2) * (mm * y + U2) + 2 * (b * (mm * x + U1) * (mm * y + U2)) + 2 * 0 * ((mm * x + U1) * r1 + (mm * y + U2) * r2) + 0 * 0 * cc) ?_ ?_ (psd _ _ _) (psd _ _ _)
  · grind
  · grind
theorem core3 (a b c f g p r1 r2 r3 U1 U2 U3 mm cc x y z : Int) (hm : 0 < mm) (h1 : a * U1 + b * U2 + c * U3 = mm * r1) (h2 : b * U1 + f * U2 + g * U3 = mm * r2) (h3 : c * U1 + g * U2 + p * U3 = mm * r3)
    (psd : ∀ t1 t2 t3 l : Int, 0 ≤ a * t1 * t1 + f * t2 * t2 + p * t3 * t3 + 2 * (b * t1 * t2 + c * t1 * t3 + g * t2 * t3) + 2 * l * (t1 * r1 + t2 * r2 + t3 * r3) + l * l * cc) :
    0 ≤ mm * cc - (r1 * U1 + r2 * U2 + r3 * U3) ∧ mm * cc - (r1 * U1 + r2 * U2 + r3 * U3) ≤ mm * (a * x * x + f * y * y + p * z * z + 2 * (b * x * y + c * x * z + g * y * z) + 2 * (x * r1 + y * r2 + z * r3) + cc) := by
  refine sandwich hm (q1 := a * (-U1) * (-U1) + f * (-U2) * (-U2) + p * (-U3) * (-U3) + 2 * (b * (-U1) * (-U2) + c * (-U1) * (-U3) + g * (-U2) * (-U3)) + 2 * mm * ((-U1) * r1 + (-U2) * r2 + (-U3) * r3) + mm * mm * cc)
    (q2 := a * (mm * x + U1) * (mm * x + U1) + f * (mm * y + U2) * (mm * y + U2) + p * (mm * z + U3) * (mm * z + U3) + 2 * (b * (mm * x + U1) * (mm * y + U2) + c * (mm * x + U1) * (mm * z + U3) + g * (mm * y + U2) * (mm * z + U3)) + 2 * 0 * ((mm * x + U1) * r1 + (mm * y + U2) * r2 + (mm * z + U3) * r3) + 0 * 0 * cc) ?_ ?_ (psd _ _ _ _) (psd _ _ _ _)
  · grind
  · grind

end
end K14
namespace K14
open PySem PySem.Spec PyProof.Rows L2 Gm
open C8 (Cal Met Mak pe_c pe_mt pe_mt0 pe_mk)
section
variable {P : Program} {w : World} {K : PySem.W.Frag} {mg : Str → Option Value} {base : Heap}
theorem sq_nn (a : Int) : 0 ≤ a * a := by
  rcases Int.le_total 0 a with h | h
  · exact Int.mul_nonneg h h
  · exact Int.mul_nonneg_of_nonpos_of_nonpos h h
theorem facts1 {e : Int} {rs m : List (List Int)} (t : Tri 1 rs) (h : GramOf 1 e rs m) (he : 0 ≤ e) : ∃ a : Int, m = [[a]] ∧ (∀ x : Int, 0 ≤ a * x * x) := by
  obtain ⟨r00, rfl⟩ := sz1 (m := rs) ⟨t.len, fun r hr => let ⟨j, hj⟩ := List.getElem?_of_mem hr; (t.row j r hj).len⟩
  obtain ⟨m00, rfl⟩ := sz1 h.sq.sz
  have t0 := t.row 0 _ rfl
  have d0 : r00 = 1 ∨ r00 = 2 := t0.at_
  have e00 : m00 = r00 * r00 + 0 + e := h.at_ 0 0 (by decide) (by decide)
  refine ⟨m00, ?_, ?_⟩
  · rfl
  · intro x
    have hq : m00 * x * x = (x * r00) * (x * r00) + e * (x * x) := by
      rw [e00]
      grind
    rw [hq]
    have n0 := sq_nn (x * r00)
    have ne := Int.mul_nonneg he (sq_nn x)
    omega
theorem facts2 {e : Int} {rs m : List (List Int)} (t : Tri 2 rs) (h : GramOf 2 e rs m) (he : 0 ≤ e) : ∃ a b f : Int, m = [[a, b], [b, f]] ∧ (∀ x y : Int, 0 ≤ a * x * x + f * y * y + 2 * (b * x * y)) ∧ 0 < a := by
  obtain ⟨r00, r01, r10, r11, rfl⟩ := sz2 (m := rs) ⟨t.len, fun r hr => let ⟨j, hj⟩ := List.getElem?_of_mem hr; (t.row j r hj).len⟩
  obtain ⟨m00, m01, m10, m11, rfl⟩ := sz2 h.sq.sz
  have t0 := t.row 0 _ rfl
  have u01 : r01 = 0 := t0.up 1 (by decide)
  have d0 : r00 = 1 ∨ r00 = 2 := t0.at_
  have t1 := t.row 1 _ rfl
  have d1 : r11 = 1 ∨ r11 = 2 := t1.at_
  have e00 : m00 = r00 * r00 + (r01 * r01 + 0) + 0 := h.at_ 0 0 (by decide) (by decide)
  have e01 : m01 = r00 * r10 + (r01 * r11 + 0) + 0 := h.at_ 0 1 (by decide) (by decide)
  have e10 : m10 = r10 * r00 + (r11 * r01 + 0) + 0 := h.at_ 1 0 (by decide) (by decide)
  have e11 : m11 = r10 * r10 + (r11 * r11 + 0) + e := h.at_ 1 1 (by decide) (by decide)
  subst u01
  refine ⟨m00, m01, m11, ?_, ?_, ?_⟩
  · have s10 : m10 = m01 := by rw [e10, e01]; grind
    rw [s10]
  · intro x y
    have hq : m00 * x * x + m11 * y * y + 2 * (m01 * x * y) = (x * r00 + y * r10) * (x * r00 + y * r10) + (y * r11) * (y * r11) + e * (y * y) := by
      rw [e00, e01, e11]
      grind
    rw [hq]
    have n0 := sq_nn (x * r00 + y * r10)
    have n1 := sq_nn (y * r11)
    have ne := Int.mul_nonneg he (sq_nn y)
    omega
  · have hd : m00 = (r00) * (r00) := by
      rw [e00]
      grind
    rw [hd]
    rcases d0 with h0 | h0 <;> simp only [h0] <;> decide
theorem facts3 {e : Int} {rs m : List (List Int)} (t : Tri 3 rs) (h : GramOf 3 e rs m) (he : 0 ≤ e) : ∃ a b c f g p : Int, m = [[a, b, c], [b, f, g], [c, g, p]] ∧ (∀ x y z : Int, 0 ≤ a * x * x + f * y * y + p * z * z + 2 * (b * x * y + c * x * z + g * y * z)) ∧ 0 < a ∧ 0 < D2 a b b f := by
  obtain ⟨r00, r01, r02, r10, r11, r12, r20, r21, r22, rfl⟩ := sz3 (m := rs) ⟨t.len, fun r hr => let ⟨j, hj⟩ := List.getElem?_of_mem hr; (t.row j r hj).len⟩
  obtain ⟨m00, m01, m02, m10, m11, m12, m20, m21, m22, rfl⟩ := sz3 h.sq.sz
  have t0 := t.row 0 _ rfl
  have u01 : r01 = 0 := t0.up 1 (by decide)
  have u02 : r02 = 0 := t0.up 2 (by decide)
  have d0 : r00 = 1 ∨ r00 = 2 := t0.at_
  have t1 := t.row 1 _ rfl
  have u12 : r12 = 0 := t1.up 2 (by decide)
  have d1 : r11 = 1 ∨ r11 = 2 := t1.at_
  have t2 := t.row 2 _ rfl
  have d2 : r22 = 1 ∨ r22 = 2 := t2.at_
  have e00 : m00 = r00 * r00 + (r01 * r01 + (r02 * r02 + 0)) + 0 := h.at_ 0 0 (by decide) (by decide)
  have e01 : m01 = r00 * r10 + (r01 * r11 + (r02 * r12 + 0)) + 0 := h.at_ 0 1 (by decide) (by decide)
  have e02 : m02 = r00 * r20 + (r01 * r21 + (r02 * r22 + 0)) + 0 := h.at_ 0 2 (by decide) (by decide)
  have e10 : m10 = r10 * r00 + (r11 * r01 + (r12 * r02 + 0)) + 0 := h.at_ 1 0 (by decide) (by decide)
  have e11 : m11 = r10 * r10 + (r11 * r11 + (r12 * r12 + 0)) + 0 := h.at_ 1 1 (by decide) (by decide)
  have e12 : m12 = r10 * r20 + (r11 * r21 + (r12 * r22 + 0)) + 0 := h.at_ 1 2 (by decide) (by decide)
  have e20 : m20 = r20 * r00 + (r21 * r01 + (r22 * r02 + 0)) + 0 := h.at_ 2 0 (by decide) (by decide)
  have e21 : m21 = r20 * r10 + (r21 * r11 + (r22 * r12 + 0)) + 0 := h.at_ 2 1 (by decide) (by decide)
  have e22 : m22 = r20 * r20 + (r21 * r21 + (r22 * r22 + 0)) + e := h.at_ 2 2 (by decide) (by decide)
  subst u01 u02 u12
  refine ⟨m00, m01, m02, m11, m12, m22, ?_, ?_, ?_, ?_⟩
  · have s10 : m10 = m01 := by rw [e10, e01]; grind 
    have s20 : m20 = m02 := by rw [e20, e02]; grind 
    have s21 : m21 = m12 := by rw [e21, e12]; grind
    rw [s10, s20, s21]
  · intro x y z
    have hq : m00 * x * x + m11 * y * y + m22 * z * z + 2 * (m01 * x * y + m02 * x * z + m12 * y * z) = (x * r00 + y * r10 + z * r20) * (x * r00 + y * r10 + z * r20) + (y * r11 + z * r21) * (y * r11 + z * r21) + (z * r22) * (z * r22) + e * (z * z) := by
      rw [e00, e01, e02, e11, e12, e22]
      grind
    rw [hq]
    have n0 := sq_nn (x * r00 + y * r10 + z * r20)
    have n1 := sq_nn (y * r11 + z * r21)
    have n2 := sq_nn (z * r22)
    have ne := Int.mul_nonneg he (sq_nn z)
    omega
  · have hd : m00 = (r00) * (r00) := by
      rw [e00]
      grind
    rw [hd]
    rcases d0 with h0 | h0 <;> simp only [h0] <;> decide
  · have hd : D2 m00 m01 m01 m11 = (r00 * r11) * (r00 * r11) := by
      rw [e00, e01, e11]
      unfold D2
      grind
    rw [hd]
    rcases d0 with h0 | h0 <;> rcases d1 with h1 | h1 <;> simp only [h0, h1] <;> decide
theorem facts4 {e : Int} {rs m : List (List Int)} (t : Tri 4 rs) (h : GramOf 4 e rs m) (he : 0 ≤ e) : ∃ a b c d f g k p q u : Int, m = [[a, b, c, d], [b, f, g, k], [c, g, p, q], [d, k, q, u]] ∧ (∀ x y z w : Int, 0 ≤ a * x * x + f * y * y + p * z * z + u * w * w + 2 * (b * x * y + c * x * z + d * x * w + g * y * z + k * y * w + q * z * w)) ∧ 0 < a ∧ 0 < D2 a b b f ∧ 0 < D3 a b c b f g c g p := by
  obtain ⟨r00, r01, r02, r03, r10, r11, r12, r13, r20, r21, r22, r23, r30, r31, r32, r33, rfl⟩ := sz4 (m := rs) ⟨t.len, fun r hr => let ⟨j, hj⟩ := List.getElem?_of_mem hr; (t.row j r hj).len⟩
  obtain ⟨m00, m01, m02, m03, m10, m11, m12, m13, m20, m21, m22, m23, m30, m31, m32, m33, rfl⟩ := sz4 h.sq.sz
  have t0 := t.row 0 _ rfl
  have u01 : r01 = 0 := t0.up 1 (by decide)
  have u02 : r02 = 0 := t0.up 2 (by decide)
  have u03 : r03 = 0 := t0.up 3 (by decide)
  have d0 : r00 = 1 ∨ r00 = 2 := t0.at_
  have t1 := t.row 1 _ rfl
  have u12 : r12 = 0 := t1.up 2 (by decide)
  have u13 : r13 = 0 := t1.up 3 (by decide)
  have d1 : r11 = 1 ∨ r11 = 2 := t1.at_
  have t2 := t.row 2 _ rfl
  have u23 : r23 = 0 := t2.up 3 (by decide)
  have d2 : r22 = 1 ∨ r22 = 2 := t2.at_
  have t3 := t.row 3 _ rfl
  have d3 : r33 = 1 ∨ r33 = 2 := t3.at_
  have e00 : m00 = r00 * r00 + (r01 * r01 + (r02 * r02 + (r03 * r03 + 0))) + 0 := h.at_ 0 0 (by decide) (by decide)
  have e01 : m01 = r00 * r10 + (r01 * r11 + (r02 * r12 + (r03 * r13 + 0))) + 0 := h.at_ 0 1 (by decide) (by decide)
  have e02 : m02 = r00 * r20 + (r01 * r21 + (r02 * r22 + (r03 * r23 + 0))) + 0 := h.at_ 0 2 (by decide) (by decide)
  have e03 : m03 = r00 * r30 + (r01 * r31 + (r02 * r32 + (r03 * r33 + 0))) + 0 := h.at_ 0 3 (by decide) (by decide)
  have e10 : m10 = r10 * r00 + (r11 * r01 + (r12 * r02 + (r13 * r03 + 0))) + 0 := h.at_ 1 0 (by decide) (by decide)
  have e11 : m11 = r10 * r10 + (r11 * r11 + (r12 * r12 + (r13 * r13 + 0))) + 0 := h.at_ 1 1 (by decide) (by decide)
  have e12 : m12 = r10 * r20 + (r11 * r21 + (r12 * r22 + (r13 * r23 + 0))) + 0 := h.at_ 1 2 (by decide) (by decide)
  have e13 : m13 = r10 * r30 + (r11 * r31 + (r12 * r32 + (r13 * r33 + 0))) + 0 := h.at_ 1 3 (by decide) (by decide)
  have e20 : m20 = r20 * r00 + (r21 * r01 + (r22 * r02 + (r23 * r03 + 0))) + 0 := h.at_ 2 0 (by decide) (by decide)
  have e21 : m21 = r20 * r10 + (r21 * r11 + (r22 * r12 + (r23 * r13 + 0))) + 0 := h.at_ 2 1 (by decide) (by decide)
  have e22 : m22 = r20 * r20 + (r21 * r21 + (r22 * r22 + (r23 * r23 + 0))) + 0 := h.at_ 2 2 (by decide) (by decide)
  have e23 : m23 = r20 * r30 + (r21 * r31 + (r22 * r32 + (r23 * r33 + 0))) + 0 := h.at_ 2 3 (by decide) (by decide)
  have e30 : m30 = r30 * r00 + (r31 * r01 + (r32 * r02 + (r33 * r03 + 0))) + 0 := h.at_ 3 0 (by decide) (by decide)
  have e31 : m31 = r30 * r10 + (r31 * r11 + (r32 * r12 + (r33 * r13 + 0))) + 0 := h.at_ 3 1 (by decide) (by decide)
  have e32 : m32 = r30 * r20 + (r31 * r21 + (r32 * r22 + (r33 * r23 + 0))) + 0 := h.at_ 3 2 (by decide) (by decide)
  have e33 : m33 = r30 * r30 + (r31 * r31 + (r32 * r32 + (r33 * r33 + 0))) + e := h.at_ 3 3 (by decide) (by decide)
  subst u01 u02 u03 u12 u13 u23
  refine ⟨m00, m01, m02, m03, m11, m12, m13, m22, m23, m33, ?_, ?_, ?_, ?_, ?_⟩
  · have s10 : m10 = m01 := by rw [e10, e01]; grind 
    have s20 : m20 = m02 := by rw [e20, e02]; grind 
    have s21 : m21 = m12 := by rw [e21, e12]; grind 
    have s30 : m30 = m03 := by rw [e30, e03]; grind 
    have s31 : m31 = m13 := by rw [e31, e13]; grind 
    have s32 : m32 = m23 := by rw [e32, e23]; grind
    rw [s10, s20, s21, s30, s31, s32]
  · intro x y z w
    have hq : m00 * x * x + m11 * y * y + m22 * z * z + m33 * w * w + 2 * (m01 * x * y + m02 * x * z + m03 * x * w + m12 * y * z + m13 * y * w + m23 * z * w) = (x * r00 + y * r10 + z * r20 + w * r30) * (x * r00 + y * r10 + z * r20 + w * r30) + (y * r11 + z * r21 + w * r31) * (y * r11 + z * r21 + w * r31) + (z * r22 + w * r32) * (z * r22 + w * r32) + (w * r33) * (w * r33) + e * (w * w) := by
      rw [e00, e01, e02, e03, e11, e12, e13, e22, e23, e33]
      grind
    rw [hq]
    have n0 := sq_nn (x * r00 + y * r10 + z * r20 + w * r30)
    have n1 := sq_nn (y * r11 + z * r21 + w * r31)
    have n2 := sq_nn (z * r22 + w * r32)
    have n3 := sq_nn (w * r33)
    have ne := Int.mul_nonneg he (sq_nn w)
    omega
  · have hd : m00 = (r00) * (r00) := by
      rw [e00]
      grind
    rw [hd]
    rcases d0 with h0 | h0 <;> simp only [h0] <;> decide
  · have hd : D2 m00 m01 m01 m11 = (r00 * r11) * (r00 * r11) := by
      rw [e00, e01, e11]
      unfold D2
      grind
    rw [hd]
    rcases d0 with h0 | h0 <;> rcases d1 with h1 | h1 <;> simp only [h0, h1] <;> decide
  · have hd : D3 m00 m01 m02 m01 m11 m12 m02 m12 m22 = (r00 * r11 * r22) * (r00 * r11 * r22) := by
      rw [e00, e01, e02, e11, e12, e22]
      unfold D3 D2
      grind
    rw [hd]
    rcases d0 with h0 | h0 <;> rcases d1 with h1 | h1 <;> rcases d2 with h2 | h2 <;> simp only [h0, h1, h2] <;> decide

end
end K14
namespace K14
open PySem PySem.Spec PyProof.Rows L2 Gm
open C8 (Cal Met Mak pe_c pe_mt pe_mt0 pe_mk)
section
variable {P : Program} {w : World} {K : PySem.W.Frag} {mg : Str → Option Value} {base : Heap}
theorem tail10 (a : Int) (v : Nat → Int) (psd : ∀ x : Int, 0 ≤ a * x * x) :
    (tailM [[a]] 1 0).length = 1 ∧ transp (tailM [[a]] 1 0) 1 = tailM [[a]] 1 0 ∧ 0 ≤ (sumF 1 fun i => sumF 1 fun j => ent (tailM [[a]] 1 0) i j * v (0 + i) * v (0 + j)) ∧ (sumF 1 fun i => sumF 1 fun j => ent (tailM [[a]] 1 0) i j * v (0 + i) * v (0 + j)) ≤ detL 0 (upL [[a]] 0) * quadL [[a]] v 1 ∧ (0 = 0 → (sumF 1 fun i => sumF 1 fun j => ent (tailM [[a]] 1 0) i j * v (0 + i) * v (0 + j)) = quadL [[a]] v 1) ∧ (0 + 1 = 1 → ent (tailM [[a]] 1 0) 0 0 = detL 1 [[a]]) := by
  have hq : quadL [[a]] v 1 = a * (v 0) * (v 0) := by
    simp [tailM, zipM, scaleM, mulM, transp, upL, riL, loL, List.range_succ, bareE0, bareE1, bareE2, bareE3, adjE1, adjE2, adjE3, dot0, dot1, dot2, dot3, sumF, ent, quadL, detL1, detL2, detL3, detL4]
    try grind
  have hV : (sumF 1 fun i => sumF 1 fun j => ent (tailM [[a]] 1 0) i j * v (0 + i) * v (0 + j)) = quadL [[a]] v 1 := by
    simp [tailM, zipM, scaleM, mulM, transp, upL, riL, loL, List.range_succ, bareE0, bareE1, bareE2, bareE3, adjE1, adjE2, adjE3, dot0, dot1, dot2, dot3, sumF, ent, quadL, detL1, detL2, detL3, detL4]
  have h0 : 0 ≤ quadL [[a]] v 1 := by
    rw [hq]
    exact psd (v 0)
  have h1 : detL 0 (upL [[a]] 0) = 1 := rfl
  refine ⟨rfl, ?_, by rw [hV]; exact h0, by rw [hV, h1, Int.one_mul]; exact Int.le_refl _, fun _ => hV, ?_⟩
  · simp [tailM, zipM, scaleM, mulM, transp, upL, riL, loL, List.range_succ, bareE0, bareE1, bareE2, bareE3, adjE1, adjE2, adjE3, dot0, dot1, dot2, dot3, sumF, ent, quadL, detL1, detL2, detL3, detL4]
  · intro _
    simp [tailM, zipM, scaleM, mulM, transp, upL, riL, loL, List.range_succ, bareE0, bareE1, bareE2, bareE3, adjE1, adjE2, adjE3, dot0, dot1, dot2, dot3, sumF, ent, quadL, detL1, detL2, detL3, detL4]
theorem tail20 (a b f : Int) (v : Nat → Int) (psd : ∀ x y : Int, 0 ≤ a * x * x + f * y * y + 2 * (b * x * y)) :
    (tailM [[a, b], [b, f]] 2 0).length = 2 ∧ transp (tailM [[a, b], [b, f]] 2 0) 2 = tailM [[a, b], [b, f]] 2 0 ∧ 0 ≤ (sumF 2 fun i => sumF 2 fun j => ent (tailM [[a, b], [b, f]] 2 0) i j * v (0 + i) * v (0 + j)) ∧ (sumF 2 fun i => sumF 2 fun j => ent (tailM [[a, b], [b, f]] 2 0) i j * v (0 + i) * v (0 + j)) ≤ detL 0 (upL [[a, b], [b, f]] 0) * quadL [[a, b], [b, f]] v 2 ∧ (0 = 0 → (sumF 2 fun i => sumF 2 fun j => ent (tailM [[a, b], [b, f]] 2 0) i j * v (0 + i) * v (0 + j)) = quadL [[a, b], [b, f]] v 2) ∧ (0 + 1 = 2 → ent (tailM [[a, b], [b, f]] 2 0) 0 0 = detL 2 [[a, b], [b, f]]) := by
  have hq : quadL [[a, b], [b, f]] v 2 = a * (v 0) * (v 0) + f * (v 1) * (v 1) + 2 * (b * (v 0) * (v 1)) := by
    simp [tailM, zipM, scaleM, mulM, transp, upL, riL, loL, List.range_succ, bareE0, bareE1, bareE2, bareE3, adjE1, adjE2, adjE3, dot0, dot1, dot2, dot3, sumF, ent, quadL, detL1, detL2, detL3, detL4]
    try grind
  have hV : (sumF 2 fun i => sumF 2 fun j => ent (tailM [[a, b], [b, f]] 2 0) i j * v (0 + i) * v (0 + j)) = quadL [[a, b], [b, f]] v 2 := by
    simp [tailM, zipM, scaleM, mulM, transp, upL, riL, loL, List.range_succ, bareE0, bareE1, bareE2, bareE3, adjE1, adjE2, adjE3, dot0, dot1, dot2, dot3, sumF, ent, quadL, detL1, detL2, detL3, detL4]
    try grind
  have h0 : 0 ≤ quadL [[a, b], [b, f]] v 2 := by
    rw [hq]
    exact psd (v 0) (v 1)
  have h1 : detL 0 (upL [[a, b], [b, f]] 0) = 1 := rfl
  refine ⟨rfl, ?_, by rw [hV]; exact h0, by rw [hV, h1, Int.one_mul]; exact Int.le_refl _, fun _ => hV, ?_⟩
  · simp [tailM, zipM, scaleM, mulM, transp, upL, riL, loL, List.range_succ, bareE0, bareE1, bareE2, bareE3, adjE1, adjE2, adjE3, dot0, dot1, dot2, dot3, sumF, ent, quadL, detL1, detL2, detL3, detL4]
  · intro h
    exact absurd h (by decide)
theorem tail21 (a b f : Int) (v : Nat → Int) (psd : ∀ x y : Int, 0 ≤ a * x * x + f * y * y + 2 * (b * x * y)) (hm : 0 < a) :
    (tailM [[a, b], [b, f]] 2 1).length = 1 ∧ transp (tailM [[a, b], [b, f]] 2 1) 1 = tailM [[a, b], [b, f]] 2 1 ∧ 0 ≤ (sumF 1 fun i => sumF 1 fun j => ent (tailM [[a, b], [b, f]] 2 1) i j * v (1 + i) * v (1 + j)) ∧ (sumF 1 fun i => sumF 1 fun j => ent (tailM [[a, b], [b, f]] 2 1) i j * v (1 + i) * v (1 + j)) ≤ detL 1 (upL [[a, b], [b, f]] 1) * quadL [[a, b], [b, f]] v 2 ∧ (1 = 0 → (sumF 1 fun i => sumF 1 fun j => ent (tailM [[a, b], [b, f]] 2 1) i j * v (1 + i) * v (1 + j)) = quadL [[a, b], [b, f]] v 2) ∧ (1 + 1 = 2 → ent (tailM [[a, b], [b, f]] 2 1) 0 0 = detL 2 [[a, b], [b, f]]) := by
  have hc := core1 a (b * v 1) (b * v 1) a (f * v 1 * v 1) (v 0) hm (by grind) (fun t1 l => by have := psd t1 (l * v 1); grind)
  have hV : (sumF 1 fun i => sumF 1 fun j => ent (tailM [[a, b], [b, f]] 2 1) i j * v (1 + i) * v (1 + j)) = a * (f * v 1 * v 1) - (b * v 1) * (b * v 1) := by
    simp [tailM, zipM, scaleM, mulM, transp, upL, riL, loL, List.range_succ, bareE0, bareE1, bareE2, bareE3, adjE1, adjE2, adjE3, dot0, dot1, dot2, dot3, sumF, ent, quadL, detL1, detL2, detL3, detL4]
    grind
  have hq : quadL [[a, b], [b, f]] v 2 = a * v 0 * v 0 + 2 * (v 0 * (b * v 1)) + (f * v 1 * v 1) := by
    simp [tailM, zipM, scaleM, mulM, transp, upL, riL, loL, List.range_succ, bareE0, bareE1, bareE2, bareE3, adjE1, adjE2, adjE3, dot0, dot1, dot2, dot3, sumF, ent, quadL, detL1, detL2, detL3, detL4]
    try grind
  have hd : detL 1 (upL [[a, b], [b, f]] 1) = a := by
    simp [tailM, zipM, scaleM, mulM, transp, upL, riL, loL, List.range_succ, bareE0, bareE1, bareE2, bareE3, adjE1, adjE2, adjE3, dot0, dot1, dot2, dot3, sumF, ent, quadL, detL1, detL2, detL3, detL4]
  refine ⟨rfl, ?_, by rw [hV]; exact hc.1, by rw [hV, hd, hq]; exact hc.2, fun h => absurd h (by decide), ?_⟩
  · simp [tailM, zipM, scaleM, mulM, transp, upL, riL, loL, List.range_succ, bareE0, bareE1, bareE2, bareE3, adjE1, adjE2, adjE3, dot0, dot1, dot2, dot3, sumF, ent, quadL, detL1, detL2, detL3, detL4]
  · intro _
    simp [tailM, zipM, scaleM, mulM, transp, upL, riL, loL, List.range_succ, bareE0, bareE1, bareE2, bareE3, adjE1, adjE2, adjE3, dot0, dot1, dot2, dot3, sumF, ent, quadL, detL1, detL2, detL3, detL4]
    unfold D2
    try grind
theorem tail30 (a b c f g p : Int) (v : Nat → Int) (psd : ∀ x y z : Int, 0 ≤ a * x * x + f * y * y + p * z * z + 2 * (b * x * y + c * x * z + g * y * z)) :
    (tailM [[a, b, c], [b, f, g], [c, g, p]] 3 0).length = 3 ∧ transp (tailM [[a, b, c], [b, f, g], [c, g, p]] 3 0) 3 = tailM [[a, b, c], [b, f, g], [c, g, p]] 3 0 ∧ 0 ≤ (sumF 3 fun i => sumF 3 fun j => ent (tailM [[a, b, c], [b, f, g], [c, g, p]] 3 0) i j * v (0 + i) * v (0 + j)) ∧ (sumF 3 fun i => sumF 3 fun j => ent (tailM [[a, b, c], [b, f, g], [c, g, p]] 3 0) i j * v (0 + i) * v (0 + j)) ≤ detL 0 (upL [[a, b, c], [b, f, g], [c, g, p]] 0) * quadL [[a, b, c], [b, f, g], [c, g, p]] v 3 ∧ (0 = 0 → (sumF 3 fun i => sumF 3 fun j => ent (tailM [[a, b, c], [b, f, g], [c, g, p]] 3 0) i j * v (0 + i) * v (0 + j)) = quadL [[a, b, c], [b, f, g], [c, g, p]] v 3) ∧ (0 + 1 = 3 → ent (tailM [[a, b, c], [b, f, g], [c, g, p]] 3 0) 0 0 = detL 3 [[a, b, c], [b, f, g], [c, g, p]]) := by
  have hq : quadL [[a, b, c], [b, f, g], [c, g, p]] v 3 = a * (v 0) * (v 0) + f * (v 1) * (v 1) + p * (v 2) * (v 2) + 2 * (b * (v 0) * (v 1) + c * (v 0) * (v 2) + g * (v 1) * (v 2)) := by
    simp [tailM, zipM, scaleM, mulM, transp, upL, riL, loL, List.range_succ, bareE0, bareE1, bareE2, bareE3, adjE1, adjE2, adjE3, dot0, dot1, dot2, dot3, sumF, ent, quadL, detL1, detL2, detL3, detL4]
    try grind
  have hV : (sumF 3 fun i => sumF 3 fun j => ent (tailM [[a, b, c], [b, f, g], [c, g, p]] 3 0) i j * v (0 + i) * v (0 + j)) = quadL [[a, b, c], [b, f, g], [c, g, p]] v 3 := by
    simp [tailM, zipM, scaleM, mulM, transp, upL, riL, loL, List.range_succ, bareE0, bareE1, bareE2, bareE3, adjE1, adjE2, adjE3, dot0, dot1, dot2, dot3, sumF, ent, quadL, detL1, detL2, detL3, detL4]
    try grind
  have h0 : 0 ≤ quadL [[a, b, c], [b, f, g], [c, g, p]] v 3 := by
    rw [hq]
    exact psd (v 0) (v 1) (v 2)
  have h1 : detL 0 (upL [[a, b, c], [b, f, g], [c, g, p]] 0) = 1 := rfl
  refine ⟨rfl, ?_, by rw [hV]; exact h0, by rw [hV, h1, Int.one_mul]; exact Int.le_refl _, fun _ => hV, ?_⟩
  · simp [tailM, zipM, scaleM, mulM, transp, upL, riL, loL, List.range_succ, bareE0, bareE1, bareE2, bareE3, adjE1, adjE2, adjE3, dot0, dot1, dot2, dot3, sumF, ent, quadL, detL1, detL2, detL3, detL4]
  · intro h
    exact absurd h (by decide)
theorem tail31 (a b c f g p : Int) (v : Nat → Int) (psd : ∀ x y z : Int, 0 ≤ a * x * x + f * y * y + p * z * z + 2 * (b * x * y + c * x * z + g * y * z)) (hm : 0 < a) :
    (tailM [[a, b, c], [b, f, g], [c, g, p]] 3 1).length = 2 ∧ transp (tailM [[a, b, c], [b, f, g], [c, g, p]] 3 1) 2 = tailM [[a, b, c], [b, f, g], [c, g, p]] 3 1 ∧ 0 ≤ (sumF 2 fun i => sumF 2 fun j => ent (tailM [[a, b, c], [b, f, g], [c, g, p]] 3 1) i j * v (1 + i) * v (1 + j)) ∧ (sumF 2 fun i => sumF 2 fun j => ent (tailM [[a, b, c], [b, f, g], [c, g, p]] 3 1) i j * v (1 + i) * v (1 + j)) ≤ detL 1 (upL [[a, b, c], [b, f, g], [c, g, p]] 1) * quadL [[a, b, c], [b, f, g], [c, g, p]] v 3 ∧ (1 = 0 → (sumF 2 fun i => sumF 2 fun j => ent (tailM [[a, b, c], [b, f, g], [c, g, p]] 3 1) i j * v (1 + i) * v (1 + j)) = quadL [[a, b, c], [b, f, g], [c, g, p]] v 3) ∧ (1 + 1 = 3 → ent (tailM [[a, b, c], [b, f, g], [c, g, p]] 3 1) 0 0 = detL 3 [[a, b, c], [b, f, g], [c, g, p]]) := by
  have hc := core1 a (b * v 1 + c * v 2) (b * v 1 + c * v 2) a (f * v 1 * v 1 + p * v 2 * v 2 + 2 * (g * v 1 * v 2)) (v 0) hm (by grind) (fun t1 l => by have := psd t1 (l * v 1) (l * v 2); grind)
  have hV : (sumF 2 fun i => sumF 2 fun j => ent (tailM [[a, b, c], [b, f, g], [c, g, p]] 3 1) i j * v (1 + i) * v (1 + j)) = a * (f * v 1 * v 1 + p * v 2 * v 2 + 2 * (g * v 1 * v 2)) - (b * v 1 + c * v 2) * (b * v 1 + c * v 2) := by
    simp [tailM, zipM, scaleM, mulM, transp, upL, riL, loL, List.range_succ, bareE0, bareE1, bareE2, bareE3, adjE1, adjE2, adjE3, dot0, dot1, dot2, dot3, sumF, ent, quadL, detL1, detL2, detL3, detL4]
    grind
  have hq : quadL [[a, b, c], [b, f, g], [c, g, p]] v 3 = a * v 0 * v 0 + 2 * (v 0 * (b * v 1 + c * v 2)) + (f * v 1 * v 1 + p * v 2 * v 2 + 2 * (g * v 1 * v 2)) := by
    simp [tailM, zipM, scaleM, mulM, transp, upL, riL, loL, List.range_succ, bareE0, bareE1, bareE2, bareE3, adjE1, adjE2, adjE3, dot0, dot1, dot2, dot3, sumF, ent, quadL, detL1, detL2, detL3, detL4]
    try grind
  have hd : detL 1 (upL [[a, b, c], [b, f, g], [c, g, p]] 1) = a := by
    simp [tailM, zipM, scaleM, mulM, transp, upL, riL, loL, List.range_succ, bareE0, bareE1, bareE2, bareE3, adjE1, adjE2, adjE3, dot0, dot1, dot2, dot3, sumF, ent, quadL, detL1, detL2, detL3, detL4]
  refine ⟨rfl, ?_, by rw [hV]; exact hc.1, by rw [hV, hd, hq]; exact hc.2, fun h => absurd h (by decide), ?_⟩
  · simp [tailM, zipM, scaleM, mulM, transp, upL, riL, loL, List.range_succ, bareE0, bareE1, bareE2, bareE3, adjE1, adjE2, adjE3, dot0, dot1, dot2, dot3, sumF, ent, quadL, detL1, detL2, detL3, detL4]
    try grind
  · intro h
    exact absurd h (by decide)
theorem tail32 (a b c f g p : Int) (v : Nat → Int) (psd : ∀ x y z : Int, 0 ≤ a * x * x + f * y * y + p * z * z + 2 * (b * x * y + c * x * z + g * y * z)) (hm : 0 < D2 a b b f) :
    (tailM [[a, b, c], [b, f, g], [c, g, p]] 3 2).length = 1 ∧ transp (tailM [[a, b, c], [b, f, g], [c, g, p]] 3 2) 1 = tailM [[a, b, c], [b, f, g], [c, g, p]] 3 2 ∧ 0 ≤ (sumF 1 fun i => sumF 1 fun j => ent (tailM [[a, b, c], [b, f, g], [c, g, p]] 3 2) i j * v (2 + i) * v (2 + j)) ∧ (sumF 1 fun i => sumF 1 fun j => ent (tailM [[a, b, c], [b, f, g], [c, g, p]] 3 2) i j * v (2 + i) * v (2 + j)) ≤ detL 2 (upL [[a, b, c], [b, f, g], [c, g, p]] 2) * quadL [[a, b, c], [b, f, g], [c, g, p]] v 3 ∧ (2 = 0 → (sumF 1 fun i => sumF 1 fun j => ent (tailM [[a, b, c], [b, f, g], [c, g, p]] 3 2) i j * v (2 + i) * v (2 + j)) = quadL [[a, b, c], [b, f, g], [c, g, p]] v 3) ∧ (2 + 1 = 3 → ent (tailM [[a, b, c], [b, f, g], [c, g, p]] 3 2) 0 0 = detL 3 [[a, b, c], [b, f, g], [c, g, p]]) := by
  have hc := core2 a b f (c * v 2) (g * v 2) (f * (c * v 2) - b * (g * v 2)) (a * (g * v 2) - b * (c * v 2)) (a * f - b * b) (p * v 2 * v 2) (v 0) (v 1) (by unfold D2 at hm; exact hm) (by grind) (by grind) (fun t1 t2 l => by have := psd t1 t2 (l * v 2); grind)
  have hV : (sumF 1 fun i => sumF 1 fun j => ent (tailM [[a, b, c], [b, f, g], [c, g, p]] 3 2) i j * v (2 + i) * v (2 + j)) = (a * f - b * b) * (p * v 2 * v 2) - ((c * v 2) * (f * (c * v 2) - b * (g * v 2)) + (g * v 2) * (a * (g * v 2) - b * (c * v 2))) := by
    simp [tailM, zipM, scaleM, mulM, transp, upL, riL, loL, List.range_succ, bareE0, bareE1, bareE2, bareE3, adjE1, adjE2, adjE3, dot0, dot1, dot2, dot3, sumF, ent, quadL, detL1, detL2, detL3, detL4]
    unfold D2
    grind
  have hq : quadL [[a, b, c], [b, f, g], [c, g, p]] v 3 = a * v 0 * v 0 + f * v 1 * v 1 + 2 * (b * v 0 * v 1) + 2 * (v 0 * (c * v 2) + v 1 * (g * v 2)) + (p * v 2 * v 2) := by
    simp [tailM, zipM, scaleM, mulM, transp, upL, riL, loL, List.range_succ, bareE0, bareE1, bareE2, bareE3, adjE1, adjE2, adjE3, dot0, dot1, dot2, dot3, sumF, ent, quadL, detL1, detL2, detL3, detL4]
    try grind
  have hd : detL 2 (upL [[a, b, c], [b, f, g], [c, g, p]] 2) = (a * f - b * b) := by
    simp [tailM, zipM, scaleM, mulM, transp, upL, riL, loL, List.range_succ, bareE0, bareE1, bareE2, bareE3, adjE1, adjE2, adjE3, dot0, dot1, dot2, dot3, sumF, ent, quadL, detL1, detL2, detL3, detL4]
    unfold D2
    rfl
  refine ⟨rfl, ?_, by rw [hV]; exact hc.1, by rw [hV, hd, hq]; exact hc.2, fun h => absurd h (by decide), ?_⟩
  · simp [tailM, zipM, scaleM, mulM, transp, upL, riL, loL, List.range_succ, bareE0, bareE1, bareE2, bareE3, adjE1, adjE2, adjE3, dot0, dot1, dot2, dot3, sumF, ent, quadL, detL1, detL2, detL3, detL4]
  · intro _
    simp [tailM, zipM, scaleM, mulM, transp, upL, riL, loL, List.range_succ, bareE0, bareE1, bareE2, bareE3, adjE1, adjE2, adjE3, dot0, dot1, dot2, dot3, sumF, ent, quadL, detL1, detL2, detL3, detL4]
    unfold D3 D2
    try grind
theorem tail40 (a b c d f g k p q u : Int) (v : Nat → Int) (psd : ∀ x y z w : Int, 0 ≤ a * x * x + f * y * y + p * z * z + u * w * w + 2 * (b * x * y + c * x * z + d * x * w + g * y * z + k * y * w + q * z * w)) :
    (tailM [[a, b, c, d], [b, f, g, k], [c, g, p, q], [d, k, q, u]] 4 0).length = 4 ∧ transp (tailM [[a, b, c, d], [b, f, g, k], [c, g, p, q], [d, k, q, u]] 4 0) 4 = tailM [[a, b, c, d], [b, f, g, k], [c, g, p, q], [d, k, q, u]] 4 0 ∧ 0 ≤ (sumF 4 fun i => sumF 4 fun j => ent (tailM [[a, b, c, d], [b, f, g, k], [c, g, p, q], [d, k, q, u]] 4 0) i j * v (0 + i) * v (0 + j)) ∧ (sumF 4 fun i => sumF 4 fun j => ent (tailM [[a, b, c, d], [b, f, g, k], [c, g, p, q], [d, k, q, u]] 4 0) i j * v (0 + i) * v (0 + j)) ≤ detL 0 (upL [[a, b, c, d], [b, f, g, k], [c, g, p, q], [d, k, q, u]] 0) * quadL [[a, b, c, d], [b, f, g, k], [c, g, p, q], [d, k, q, u]] v 4 ∧ (0 = 0 → (sumF 4 fun i => sumF 4 fun j => ent (tailM [[a, b, c, d], [b, f, g, k], [c, g, p, q], [d, k, q, u]] 4 0) i j * v (0 + i) * v (0 + j)) = quadL [[a, b, c, d], [b, f, g, k], [c, g, p, q], [d, k, q, u]] v 4) ∧ (0 + 1 = 4 → ent (tailM [[a, b, c, d], [b, f, g, k], [c, g, p, q], [d, k, q, u]] 4 0) 0 0 = detL 4 [[a, b, c, d], [b, f, g, k], [c, g, p, q], [d, k, q, u]]) := by
  have hq : quadL [[a, b, c, d], [b, f, g, k], [c, g, p, q], [d, k, q, u]] v 4 = a * (v 0) * (v 0) + f * (v 1) * (v 1) + p * (v 2) * (v 2) + u * (v 3) * (v 3) + 2 * (b * (v 0) * (v 1) + c * (v 0) * (v 2) + d * (v 0) * (v 3) + g * (v 1) * (v 2) + k * (v 1) * (v 3) + q * (v 2) * (v 3)) := by
    simp [tailM, zipM, scaleM, mulM, transp, upL, riL, loL, List.range_succ, bareE0, bareE1, bareE2, bareE3, adjE1, adjE2, adjE3, dot0, dot1, dot2, dot3, sumF, ent, quadL, detL1, detL2, detL3, detL4]
    try grind
  have hV : (sumF 4 fun i => sumF 4 fun j => ent (tailM [[a, b, c, d], [b, f, g, k], [c, g, p, q], [d, k, q, u]] 4 0) i j * v (0 + i) * v (0 + j)) = quadL [[a, b, c, d], [b, f, g, k], [c, g, p, q], [d, k, q, u]] v 4 := by
    simp [tailM, zipM, scaleM, mulM, transp, upL, riL, loL, List.range_succ, bareE0, bareE1, bareE2, bareE3, adjE1, adjE2, adjE3, dot0, dot1, dot2, dot3, sumF, ent, quadL, detL1, detL2, detL3, detL4]
    try grind
  have h0 : 0 ≤ quadL [[a, b, c, d], [b, f, g, k], [c, g, p, q], [d, k, q, u]] v 4 := by
    rw [hq]
    exact psd (v 0) (v 1) (v 2) (v 3)
  have h1 : detL 0 (upL [[a, b, c, d], [b, f, g, k], [c, g, p, q], [d, k, q, u]] 0) = 1 := rfl
  refine ⟨rfl, ?_, by rw [hV]; exact h0, by rw [hV, h1, Int.one_mul]; exact Int.le_refl _, fun _ => hV, ?_⟩
  · simp [tailM, zipM, scaleM, mulM, transp, upL, riL, loL, List.range_succ, bareE0, bareE1, bareE2, bareE3, adjE1, adjE2, adjE3, dot0, dot1, dot2, dot3, sumF, ent, quadL, detL1, detL2, detL3, detL4]
  · intro h
    exact absurd h (by decide)
theorem tail41 (a b c d f g k p q u : Int) (v : Nat → Int) (psd : ∀ x y z w : Int, 0 ≤ a * x * x + f * y * y + p * z * z + u * w * w + 2 * (b * x * y + c * x * z + d * x * w + g * y * z + k * y * w + q * z * w)) (hm : 0 < a) :
    (tailM [[a, b, c, d], [b, f, g, k], [c, g, p, q], [d, k, q, u]] 4 1).length = 3 ∧ transp (tailM [[a, b, c, d], [b, f, g, k], [c, g, p, q], [d, k, q, u]] 4 1) 3 = tailM [[a, b, c, d], [b, f, g, k], [c, g, p, q], [d, k, q, u]] 4 1 ∧ 0 ≤ (sumF 3 fun i => sumF 3 fun j => ent (tailM [[a, b, c, d], [b, f, g, k], [c, g, p, q], [d, k, q, u]] 4 1) i j * v (1 + i) * v (1 + j)) ∧ (sumF 3 fun i => sumF 3 fun j => ent (tailM [[a, b, c, d], [b, f, g, k], [c, g, p, q], [d, k, q, u]] 4 1) i j * v (1 + i) * v (1 + j)) ≤ detL 1 (upL [[a, b, c, d], [b, f, g, k], [c, g, p, q], [d, k, q, u]] 1) * quadL [[a, b, c, d], [b, f, g, k], [c, g, p, q], [d, k, q, u]] v 4 ∧ (1 = 0 → (sumF 3 fun i => sumF 3 fun j => ent (tailM [[a, b, c, d], [b, f, g, k], [c, g, p, q], [d, k, q, u]] 4 1) i j * v (1 + i) * v (1 + j)) = quadL [[a, b, c, d], [b, f, g, k], [c, g, p, q], [d, k, q, u]] v 4) ∧ (1 + 1 = 4 → ent (tailM [[a, b, c, d], [b, f, g, k], [c, g, p, q], [d, k, q, u]] 4 1) 0 0 = detL 4 [[a, b, c, d], [b, f, g, k], [c, g, p, q], [d, k, q, u]]) := by
  have hc := core1 a (b * v 1 + c * v 2 + d * v 3) (b * v 1 + c * v 2 + d * v 3) a (f * v 1 * v 1 + p * v 2 * v 2 + u * v 3 * v 3 + 2 * (g * v 1 * v 2 + k * v 1 * v 3 + q * v 2 * v 3)) (v 0) hm (by grind) (fun t1 l => by have := psd t1 (l * v 1) (l * v 2) (l * v 3); grind)
  have hV : (sumF 3 fun i => sumF 3 fun j => ent (tailM [[a, b, c, d], [b, f, g, k], [c, g, p, q], [d, k, q, u]] 4 1) i j * v (1 + i) * v (1 + j)) = a * (f * v 1 * v 1 + p * v 2 * v 2 + u * v 3 * v 3 + 2 * (g * v 1 * v 2 + k * v 1 * v 3 + q * v 2 * v 3)) - (b * v 1 + c * v 2 + d * v 3) * (b * v 1 + c * v 2 + d * v 3) := by
    simp [tailM, zipM, scaleM, mulM, transp, upL, riL, loL, List.range_succ, bareE0, bareE1, bareE2, bareE3, adjE1, adjE2, adjE3, dot0, dot1, dot2, dot3, sumF, ent, quadL, detL1, detL2, detL3, detL4]
    grind
  have hq : quadL [[a, b, c, d], [b, f, g, k], [c, g, p, q], [d, k, q, u]] v 4 = a * v 0 * v 0 + 2 * (v 0 * (b * v 1 + c * v 2 + d * v 3)) + (f * v 1 * v 1 + p * v 2 * v 2 + u * v 3 * v 3 + 2 * (g * v 1 * v 2 + k * v 1 * v 3 + q * v 2 * v 3)) := by
    simp [tailM, zipM, scaleM, mulM, transp, upL, riL, loL, List.range_succ, bareE0, bareE1, bareE2, bareE3, adjE1, adjE2, adjE3, dot0, dot1, dot2, dot3, sumF, ent, quadL, detL1, detL2, detL3, detL4]
    try grind
  have hd : detL 1 (upL [[a, b, c, d], [b, f, g, k], [c, g, p, q], [d, k, q, u]] 1) = a := by
    simp [tailM, zipM, scaleM, mulM, transp, upL, riL, loL, List.range_succ, bareE0, bareE1, bareE2, bareE3, adjE1, adjE2, adjE3, dot0, dot1, dot2, dot3, sumF, ent, quadL, detL1, detL2, detL3, detL4]
  refine ⟨rfl, ?_, by rw [hV]; exact hc.1, by rw [hV, hd, hq]; exact hc.2, fun h => absurd h (by decide), ?_⟩
  · simp [tailM, zipM, scaleM, mulM, transp, upL, riL, loL, List.range_succ, bareE0, bareE1, bareE2, bareE3, adjE1, adjE2, adjE3, dot0, dot1, dot2, dot3, sumF, ent, quadL, detL1, detL2, detL3, detL4]
    try grind
  · intro h
    exact absurd h (by decide)
theorem tail42 (a b c d f g k p q u : Int) (v : Nat → Int) (psd : ∀ x y z w : Int, 0 ≤ a * x * x + f * y * y + p * z * z + u * w * w + 2 * (b * x * y + c * x * z + d * x * w + g * y * z + k * y * w + q * z * w)) (hm : 0 < D2 a b b f) :
    (tailM [[a, b, c, d], [b, f, g, k], [c, g, p, q], [d, k, q, u]] 4 2).length = 2 ∧ transp (tailM [[a, b, c, d], [b, f, g, k], [c, g, p, q], [d, k, q, u]] 4 2) 2 = tailM [[a, b, c, d], [b, f, g, k], [c, g, p, q], [d, k, q, u]] 4 2 ∧ 0 ≤ (sumF 2 fun i => sumF 2 fun j => ent (tailM [[a, b, c, d], [b, f, g, k], [c, g, p, q], [d, k, q, u]] 4 2) i j * v (2 + i) * v (2 + j)) ∧ (sumF 2 fun i => sumF 2 fun j => ent (tailM [[a, b, c, d], [b, f, g, k], [c, g, p, q], [d, k, q, u]] 4 2) i j * v (2 + i) * v (2 + j)) ≤ detL 2 (upL [[a, b, c, d], [b, f, g, k], [c, g, p, q], [d, k, q, u]] 2) * quadL [[a, b, c, d], [b, f, g, k], [c, g, p, q], [d, k, q, u]] v 4 ∧ (2 = 0 → (sumF 2 fun i => sumF 2 fun j => ent (tailM [[a, b, c, d], [b, f, g, k], [c, g, p, q], [d, k, q, u]] 4 2) i j * v (2 + i) * v (2 + j)) = quadL [[a, b, c, d], [b, f, g, k], [c, g, p, q], [d, k, q, u]] v 4) ∧ (2 + 1 = 4 → ent (tailM [[a, b, c, d], [b, f, g, k], [c, g, p, q], [d, k, q, u]] 4 2) 0 0 = detL 4 [[a, b, c, d], [b, f, g, k], [c, g, p, q], [d, k, q, u]]) := by
  have hc := core2 a b f (c * v 2 + d * v 3) (g * v 2 + k * v 3) (f * (c * v 2 + d * v 3) - b * (g * v 2 + k * v 3)) (a * (g * v 2 + k * v 3) - b * (c * v 2 + d * v 3)) (a * f - b * b) (p * v 2 * v 2 + u * v 3 * v 3 + 2 * (q * v 2 * v 3)) (v 0) (v 1) (by unfold D2 at hm; exact hm) (by grind) (by grind) (fun t1 t2 l => by have := psd t1 t2 (l * v 2) (l * v 3); grind)
  have hV : (sumF 2 fun i => sumF 2 fun j => ent (tailM [[a, b, c, d], [b, f, g, k], [c, g, p, q], [d, k, q, u]] 4 2) i j * v (2 + i) * v (2 + j)) = (a * f - b * b) * (p * v 2 * v 2 + u * v 3 * v 3 + 2 * (q * v 2 * v 3)) - ((c * v 2 + d * v 3) * (f * (c * v 2 + d * v 3) - b * (g * v 2 + k * v 3)) + (g * v 2 + k * v 3) * (a * (g * v 2 + k * v 3) - b * (c * v 2 + d * v 3))) := by
    simp [tailM, zipM, scaleM, mulM, transp, upL, riL, loL, List.range_succ, bareE0, bareE1, bareE2, bareE3, adjE1, adjE2, adjE3, dot0, dot1, dot2, dot3, sumF, ent, quadL, detL1, detL2, detL3, detL4]
    unfold D2
    grind
  have hq : quadL [[a, b, c, d], [b, f, g, k], [c, g, p, q], [d, k, q, u]] v 4 = a * v 0 * v 0 + f * v 1 * v 1 + 2 * (b * v 0 * v 1) + 2 * (v 0 * (c * v 2 + d * v 3) + v 1 * (g * v 2 + k * v 3)) + (p * v 2 * v 2 + u * v 3 * v 3 + 2 * (q * v 2 * v 3)) := by
    simp [tailM, zipM, scaleM, mulM, transp, upL, riL, loL, List.range_succ, bareE0, bareE1, bareE2, bareE3, adjE1, adjE2, adjE3, dot0, dot1, dot2, dot3, sumF, ent, quadL, detL1, detL2, detL3, detL4]
    try grind
  have hd : detL 2 (upL [[a, b, c, d], [b, f, g, k], [c, g, p, q], [d, k, q, u]] 2) = (a * f - b * b) := by
    simp [tailM, zipM, scaleM, mulM, transp, upL, riL, loL, List.range_succ, bareE0, bareE1, bareE2, bareE3, adjE1, adjE2, adjE3, dot0, dot1, dot2, dot3, sumF, ent, quadL, detL1, detL2, detL3, detL4]
    unfold D2
    rfl
  refine ⟨rfl, ?_, by rw [hV]; exact hc.1, by rw [hV, hd, hq]; exact hc.2, fun h => absurd h (by decide), ?_⟩
  · simp [tailM, zipM, scaleM, mulM, transp, upL, riL, loL, List.range_succ, bareE0, bareE1, bareE2, bareE3, adjE1, adjE2, adjE3, dot0, dot1, dot2, dot3, sumF, ent, quadL, detL1, detL2, detL3, detL4]
    try grind
  · intro h
    exact absurd h (by decide)
theorem tail43 (a b c d f g k p q u : Int) (v : Nat → Int) (psd : ∀ x y z w : Int, 0 ≤ a * x * x + f * y * y + p * z * z + u * w * w + 2 * (b * x * y + c * x * z + d * x * w + g * y * z + k * y * w + q * z * w)) (hm : 0 < D3 a b c b f g c g p) :
    (tailM [[a, b, c, d], [b, f, g, k], [c, g, p, q], [d, k, q, u]] 4 3).length = 1 ∧ transp (tailM [[a, b, c, d], [b, f, g, k], [c, g, p, q], [d, k, q, u]] 4 3) 1 = tailM [[a, b, c, d], [b, f, g, k], [c, g, p, q], [d, k, q, u]] 4 3 ∧ 0 ≤ (sumF 1 fun i => sumF 1 fun j => ent (tailM [[a, b, c, d], [b, f, g, k], [c, g, p, q], [d, k, q, u]] 4 3) i j * v (3 + i) * v (3 + j)) ∧ (sumF 1 fun i => sumF 1 fun j => ent (tailM [[a, b, c, d], [b, f, g, k], [c, g, p, q], [d, k, q, u]] 4 3) i j * v (3 + i) * v (3 + j)) ≤ detL 3 (upL [[a, b, c, d], [b, f, g, k], [c, g, p, q], [d, k, q, u]] 3) * quadL [[a, b, c, d], [b, f, g, k], [c, g, p, q], [d, k, q, u]] v 4 ∧ (3 = 0 → (sumF 1 fun i => sumF 1 fun j => ent (tailM [[a, b, c, d], [b, f, g, k], [c, g, p, q], [d, k, q, u]] 4 3) i j * v (3 + i) * v (3 + j)) = quadL [[a, b, c, d], [b, f, g, k], [c, g, p, q], [d, k, q, u]] v 4) ∧ (3 + 1 = 4 → ent (tailM [[a, b, c, d], [b, f, g, k], [c, g, p, q], [d, k, q, u]] 4 3) 0 0 = detL 4 [[a, b, c, d], [b, f, g, k], [c, g, p, q], [d, k, q, u]]) := by
  have hc := core3 a b c f g p (d * v 3) (k * v 3) (q * v 3) ((f * p - g * g) * (d * v 3) - (b * p - c * g) * (k * v 3) + (b * g - c * f) * (q * v 3)) ((c * g - b * p) * (d * v 3) + (a * p - c * c) * (k * v 3) - (a * g - b * c) * (q * v 3)) ((b * g - c * f) * (d * v 3) - (a * g - b * c) * (k * v 3) + (a * f - b * b) * (q * v 3)) (D3 a b c b f g c g p) (u * v 3 * v 3) (v 0) (v 1) (v 2) hm (by unfold D3 D2; grind) (by unfold D3 D2; grind) (by unfold D3 D2; grind) (fun t1 t2 t3 l => by have := psd t1 t2 t3 (l * v 3); grind)
  have hV : (sumF 1 fun i => sumF 1 fun j => ent (tailM [[a, b, c, d], [b, f, g, k], [c, g, p, q], [d, k, q, u]] 4 3) i j * v (3 + i) * v (3 + j)) = (D3 a b c b f g c g p) * (u * v 3 * v 3) - ((d * v 3) * ((f * p - g * g) * (d * v 3) - (b * p - c * g) * (k * v 3) + (b * g - c * f) * (q * v 3)) + (k * v 3) * ((c * g - b * p) * (d * v 3) + (a * p - c * c) * (k * v 3) - (a * g - b * c) * (q * v 3)) + (q * v 3) * ((b * g - c * f) * (d * v 3) - (a * g - b * c) * (k * v 3) + (a * f - b * b) * (q * v 3))) := by
    simp [tailM, zipM, scaleM, mulM, transp, upL, riL, loL, List.range_succ, bareE0, bareE1, bareE2, bareE3, adjE1, adjE2, adjE3, dot0, dot1, dot2, dot3, sumF, ent, quadL, detL1, detL2, detL3, detL4]
    unfold D3 D2
    grind
  have hq : quadL [[a, b, c, d], [b, f, g, k], [c, g, p, q], [d, k, q, u]] v 4 = a * v 0 * v 0 + f * v 1 * v 1 + p * v 2 * v 2 + 2 * (b * v 0 * v 1 + c * v 0 * v 2 + g * v 1 * v 2) + 2 * (v 0 * (d * v 3) + v 1 * (k * v 3) + v 2 * (q * v 3)) + (u * v 3 * v 3) := by
    simp [tailM, zipM, scaleM, mulM, transp, upL, riL, loL, List.range_succ, bareE0, bareE1, bareE2, bareE3, adjE1, adjE2, adjE3, dot0, dot1, dot2, dot3, sumF, ent, quadL, detL1, detL2, detL3, detL4]
    try grind
  have hd : detL 3 (upL [[a, b, c, d], [b, f, g, k], [c, g, p, q], [d, k, q, u]] 3) = (D3 a b c b f g c g p) := by
    simp [tailM, zipM, scaleM, mulM, transp, upL, riL, loL, List.range_succ, bareE0, bareE1, bareE2, bareE3, adjE1, adjE2, adjE3, dot0, dot1, dot2, dot3, sumF, ent, quadL, detL1, detL2, detL3, detL4]
  refine ⟨rfl, ?_, by rw [hV]; exact hc.1, by rw [hV, hd, hq]; exact hc.2, fun h => absurd h (by decide), ?_⟩
  · simp [tailM, zipM, scaleM, mulM, transp, upL, riL, loL, List.range_succ, bareE0, bareE1, bareE2, bareE3, adjE1, adjE2, adjE3, dot0, dot1, dot2, dot3, sumF, ent, quadL, detL1, detL2, detL3, detL4]
  · intro _
    simp [tailM, zipM, scaleM, mulM, transp, upL, riL, loL, List.range_succ, bareE0, bareE1, bareE2, bareE3, adjE1, adjE2, adjE3, dot0, dot1, dot2, dot3, sumF, ent, quadL, detL1, detL2, detL3, detL4]
    unfold D4 D3 D2
    try grind

end
end K14
namespace K14
open PySem PySem.Spec PyProof.Rows L2 Gm
open C8 (Cal Met Mak pe_c pe_mt pe_mt0 pe_mk)
section
variable {P : Program} {w : World} {K : PySem.W.Frag} {mg : Str → Option Value} {base : Heap}
/-! ### the width that isn't told -/
def sp_checked_width_N (K : PySem.W.Frag) : Sp := fun vs H Q _ => ∃ (v : V) (m : List (List Int)) (w : Nat), vs = [v, .non] ∧ TRows K H v m ∧ 0 < m.length ∧ m.length ≤ 1000 ∧ (∀ r ∈ m, r.length = w) ∧ ∀ H', Same H H' → Q (.int w) H'
theorem ok_checked_width_N (T : Top K mg) (hN : base.NoSeer) (hT : P.given.tree = none) : FnOk P w K mg base CX0 2 T.a_checked_width T.d_checked_width ["rows", "width"] (sp_checked_width_N K) := by
  refine T.F_checked_width.ok sc_checked_width (fun vs H Q E h => ?_) (fun cdv A outer s H vs Q E hr h => ?_)
  · obtain ⟨v, m, w, rfl, _⟩ := h
    rfl
  · obtain ⟨v, m, w, rfl, hm, h0, hl, hw, q⟩ := h
    obtain ⟨a, ws, rfl, hs, hp⟩ := id hm
    have lw := Paired.length hp
    obtain ⟨v0, ev0⟩ : ∃ v0, ws[0]? = some v0 := ⟨ws[0]'(by omega), List.getElem?_eq_getElem (by omega)⟩
    obtain ⟨r0, er0, b0, rfl, hb0⟩ := Paired.getR hp ev0
    have hr0 := hw r0 (List.mem_of_getElem? er0)
    refine ⟨_, (pss_cons (ps_if (pt_cmpR op_isN (pv 1) pe_non (nomark _))
      (pss_one (ps_set (i := 1) sc_checked_width.nd rfl (by first | exact .inl rfl | exact .inr rfl) (pe_ifExp (pt_cmpR op_gt (pe_callB (lenS K rfl) (by rfl) T.z_len (by decide +kernel) (pa_cons (pv 0) pa_nil)) pe_int (nomark _)) (pe_callB (lenS K rfl) (by rfl) T.z_len (by decide +kernel) (pa_cons (pe_ix (ixT K rfl) (pv 0) pe_int (fun _ _ => rfl)) pa_nil)) pe_int)))
      pss_nil)
      (pss_cons (ps_if (PW.pt (pw_or (pt_not (pt_val (pe_c (cal_is_integer T hN hT) hr (by decide) (by rfl) (pa_cons (pv 1) pa_nil)))) (pw_or1 (pt_cmpR op_lt (pv 1) pe_int (nomark _)))))
      (pss_one ps_never)
      pss_nil)
      (pss_cons (ps_if (pt_not (pt_val (pe_callB (allK K rfl rfl) (by rfl) T.z_all (by decide +kernel) (pa_cons (pe_lc (own := [("row", 2)]) (g := (gName 2)) (by rfl) sc_checked_width.nd (piS K rfl (pv 0)) ((by show BlkOk ["rows", "width", "row"] (defScope s_checked_width) _ _; exact blkOk_by (by decide +kernel))) (fun _ _ _ _ _ => (pg_name (i := 2) sc_checked_width.nd rfl (by first | exact .inl rfl | exact .inr rfl))) (fun _ _ _ _ _ => pts_nil) (fun _ _ _ _ _ => (pe_cmpR op_eq (pe_callB (lenS K rfl) (by rfl) T.z_len (by decide +kernel) (pa_cons (pv 2) pa_nil)) (pv 1) (nomark _)))) pa_nil))))
      (pss_one ps_never)
      pss_nil)
      (pss_one (ps_ret (pv 1)))))), ?_⟩
    refine ⟨_, rfl, rfl, _, rfl, ?_⟩
    rw [decide_eq_true rfl]
    refine iteT ?_
    refine ⟨_, rfl, a, ws, rfl, .inr hs, _, _, rfl, rfl, _, rfl, ?_⟩
    rw [decide_eq_true (by omega)]
    refine iteT ?_
    refine ⟨_, rfl, a, ws, _, _, rfl, rfl, hs, atI_nat (j := 0) ev0, b0, _, rfl, .inr hb0, ?_⟩
    rw [List.length_map, hr0]
    refine ⟨_, rfl, _, rfl, true, rfl, iteF ⟨_, rfl, _, _, rfl, rfl, _, rfl, ?_⟩⟩
    rw [decide_eq_false (by omega)]
    refine iteF ?_
    refine ⟨_, rfl, a, ws, rfl, .inr hs, fun J2 G2 W2 hG2 D hD => ?_⟩
    refine lc_all W2 hD (by omega) (fun H4 s4 => hG2 H4 fun b _ o => s4 b o) (fun _ v _ => v = .bl true) (fun _ _ _ _ _ _ _ h => h) ?_ gm_name ?_
    · rintro i x H4 H4' acc Ko hi s4 eD ⟨rfl, ex⟩ k
      obtain ⟨r, er, b, rfl, hb⟩ := Paired.getR hp ex
      refine ⟨rfl, ?_⟩
      refine ⟨_, rfl, b, _, rfl, .inr (Same.seqT s4 hb), _, rfl, rfl, ?_⟩
      rw [List.length_map, hw r (List.mem_of_getElem? er), decide_eq_true rfl]
      exact k _ _ (Same.refl _) rfl
    · intro H4 l s4 eD hl2
      refine ⟨D, List.replicate l.length true, rfl, .inl (.inl (by rw [← paired_true hl2]; exact eD)), true, by rw [all_true], ?_⟩
      refine iteF ?_
      exact ⟨_, rfl, q _ s4⟩
theorem cal_checked_width_N (T : Top K mg) (hN : base.NoSeer) (hT : P.given.tree = none) : Cal P w K mg base 2 "checked_width" (sp_checked_width_N K) [] := ⟨⟨_, _, _, [], ok_checked_width_N T hN hT, T.g_checked_width, T.F_checked_width.kp, T.b_checked_width, .nil⟩⟩
def sp_Grid_init_N (K : PySem.W.Frag) (C : Addr) : Sp := fun vs H Q _ => ∃ (p dx : Addr) (v : V) (m : List (List Int)) (w : Nat), vs = [.ref p, v, .non] ∧ H p = some (.ins C dx []) ∧ IRows K H v m ∧ 0 < m.length ∧ m.length ≤ 1000 ∧ w ≤ 1000 ∧ (∀ r ∈ m, r.length = w) ∧
  ∀ t H', Off p H H' → H' p = some (.ins C dx (flds t w)) → TRows K H' t m → Q .non H'
theorem ok_Grid_init_N (T : Top K mg) (hN : base.NoSeer) (hT : P.given.tree = none) : FnOk P w K mg base CX0 3 T.a_Grid_init T.d_Grid_init ["self", "rows", "width"] (sp_Grid_init_N K T.C_Grid) := by
  refine T.F_Grid_init.ok sc_Grid_init (fun vs H Q E h => ?_) (fun cdv A outer s H vs Q E hr h => ?_)
  · obtain ⟨p, dx, v, m, w, rfl, _⟩ := h
    rfl
  · obtain ⟨p, dx, v, m, w, rfl, hp, hm, h0, hl, hw, hrw, q⟩ := h
    refine ⟨_, PSs.nox (pss_cons (ps_fld (pv 0) (pe_c (cal_checked_rows T hN hT) hr (by decide) (by rfl) (pa_cons (pv 1) pa_nil)) rfl)
      (pss_one (ps_fld (pv 0) (pe_c (cal_checked_width_N T hN hT) hr (by decide) (by rfl) (pa_cons (fldK K rfl (pv 0) rfl) (pa_cons (pv 2) pa_nil))) rfl))), ?_⟩
    refine ⟨_, rfl, v, m, rfl, hm, hl, fun r hr => by rw [hrw r hr]; exact hw, fun t H1 s1 ht => ?_⟩
    have hp1 := s1 _ _ hp
    refine ⟨_, rfl, p, T.C_Grid, dx, [], rfl, hp1, T.cl_Grid, T.n_rows, by show 0 < 1000; decide, ?_⟩
    refine ⟨_, rfl, p, T.C_Grid, dx, _, t, rfl, upd_same, T.cl_Grid, T.n_rows, ?_, ?_⟩
    · rw [lookup_putF, if_pos rfl]
    have ht2 : TRows K (upd H1 p (.ins T.C_Grid dx (putF "rows" t []))) t m := trows_off hp1 Off.upd ht
    refine ⟨_, rfl, t, m, w, rfl, ht2, h0, hl, hrw, fun H2 s2 => ?_⟩
    have hp2 := s2 _ _ upd_same
    refine ⟨_, rfl, p, T.C_Grid, dx, _, rfl, hp2, T.cl_Grid, T.n_width, by show 1 < 1000; decide, ?_⟩
    refine q t _ (fun b o n e => ?_) upd_same (trows_off hp2 Off.upd (ht2.same s2))
    rw [upd_ne n]
    exact s2 _ _ (Off.upd _ _ n (s1 _ _ e))

end
end K14
namespace K14
open PySem PySem.Spec PyProof.Rows L2 Gm
open C8 (Cal Met Mak pe_c pe_mt pe_mt0 pe_mk)
section
variable {P : Program} {w : World} {K : PySem.W.Frag} {mg : Str → Option Value} {base : Heap}
theorem tail_fact {n s : Nat} {e : Int} {rs m : List (List Int)} (hn : n ≤ 4) (hs : s < n) (t : Tri n rs) (h : GramOf n e rs m) (he : 0 ≤ e) (v : Nat → Int) :
    (tailM m n s).length = n - s ∧ transp (tailM m n s) (n - s) = tailM m n s ∧ 0 ≤ (sumF (n - s) fun i => sumF (n - s) fun j => ent (tailM m n s) i j * v (s + i) * v (s + j)) ∧ (sumF (n - s) fun i => sumF (n - s) fun j => ent (tailM m n s) i j * v (s + i) * v (s + j)) ≤ detL s (upL m s) * quadL m v n ∧
    (s = 0 → (sumF (n - s) fun i => sumF (n - s) fun j => ent (tailM m n s) i j * v (s + i) * v (s + j)) = quadL m v n) ∧ (s + 1 = n → ent (tailM m n s) 0 0 = detL n m) := by
  obtain rfl | rfl | rfl | rfl : n = 1 ∨ n = 2 ∨ n = 3 ∨ n = 4 := by omega
  · obtain ⟨a, rfl, psd⟩ := facts1 t h he
    obtain rfl : s = 0 := by omega
    exact tail10 a v psd
  · obtain ⟨a, b, f, rfl, psd, h1⟩ := facts2 t h he
    obtain rfl | rfl : s = 0 ∨ s = 1 := by omega
    · exact tail20 a b f v psd
    · exact tail21 a b f v psd h1
  · obtain ⟨a, b, c, f, g, p, rfl, psd, h1, h2⟩ := facts3 t h he
    obtain rfl | rfl | rfl : s = 0 ∨ s = 1 ∨ s = 2 := by omega
    · exact tail30 a b c f g p v psd
    · exact tail31 a b c f g p v psd h1
    · exact tail32 a b c f g p v psd h2
  · obtain ⟨a, b, c, d, f, g, k, p, q, u, rfl, psd, h1, h2, h3⟩ := facts4 t h he
    obtain rfl | rfl | rfl | rfl : s = 0 ∨ s = 1 ∨ s = 2 ∨ s = 3 := by omega
    · exact tail40 a b c d f g k p q u v psd
    · exact tail41 a b c d f g k p q u v psd h1
    · exact tail42 a b c d f g k p q u v psd h2
    · exact tail43 a b c d f g k p q u v psd h3
theorem LA.pp {p : Addr} {H : Hp} {v : V} {r : List Int} (h : LA p p H v r) : LRow H v r := h.row
theorem LAs.rows {p : Addr} {H : Hp} {v : V} {m : List (List Int)} (h : LAs p H v m) : LRows H v m := let ⟨a, ws, e, _, x, q⟩ := h; ⟨a, ws, e, x, L2.Paired.mapP q fun _ _ => LA.row⟩
theorem LAs.offp {p : Addr} {H H' : Hp} {v : V} {m : List (List Int)} (o : Off p H H') (h : LAs p H v m) : LAs p H' v m := let ⟨a, ws, e, n, x, q⟩ := h; ⟨a, ws, e, n, o _ _ n x, L2.Paired.mapP q fun _ _ => LA.offp o⟩
theorem LAs.same {p : Addr} {H H' : Hp} {v : V} {m : List (List Int)} (s : Same H H') (h : LAs p H v m) : LAs p H' v m := h.offp (Same.off s)
theorem LRows.irows {K : PySem.W.Frag} {H : Hp} {v : V} {m : List (List Int)} (h : LRows H v m) : IRows K H v m := let ⟨a, ws, e, x, q⟩ := h; ⟨a, ws, e, .inl (.inl (.inl x)), L2.Paired.mapP q fun _ _ ⟨b, eb, xb⟩ => ⟨b, eb, .inl (.inl (.inl xb))⟩⟩
theorem gridN {K : PySem.W.Frag} {C : Addr} {H H' : Hp} {p : Addr} {v : V} {m : List (List Int)} {w : Nat} (nu : NumAt H p) (o : Off p H H') (h : IsGrid K C H v m w) : IsGrid K C H' v m w := by
  obtain ⟨⟨q, dx, t, e, ho, ht⟩, hw⟩ := h
  obtain ⟨l, el⟩ := nu.ref
  exact ⟨⟨q, dx, t, e, o _ _ (ne_of ho el (by intro z; cases z)) ho, ht.off el o⟩, hw⟩
theorem mak_Grid_N (T : Top K mg) (hN : base.NoSeer) (hT : P.given.tree = none) : Mak P w K mg base 3 "Grid" T.C_Grid (sp_Grid_init_N K T.C_Grid) [.non] := by
  obtain ⟨ds2, vN2, bN2⟩ := T.F_Grid_init.binds1 (ps := ["self", "rows", "width"]) 2 0 (by simp) rfl fun _ _ _ _ _ _ _ us its hl hi => match us, hl, its, hi with | [_, _], _, [_], _ => ⟨_, rfl, rfl⟩
  exact ⟨⟨_, _, _, _, T.mk_Grid, ok_Grid_init_N T hN hT, T.g_Grid, bN2, vN2⟩⟩
theorem make_gridN {K : PySem.W.Frag} {C x dx : Addr} {H1 : Hp} {v : V} {m : List (List Int)} {w : Nat} {Q : VK} {E : XK} (nx : H1 x = none) (nd : H1 dx = none) (hm : IRows K H1 v m) (h0 : 0 < m.length) (hl : m.length ≤ 1000) (hw : w ≤ 1000) (hrw : ∀ r ∈ m, r.length = w) (q : ∀ H', Same H1 H' → IsGrid K C H' (.ref x) m w → Q .non H') :
    sp_Grid_init_N K C [.ref x, v, .non] (upd (upd H1 dx (.own x)) x (.ins C dx [])) Q E := by
  have s0 : Same H1 (upd (upd H1 dx (.own x)) x (.ins C dx [])) := fun b o e => by
    rw [upd_ne (ne_of_none e nx), upd_ne (ne_of_none e nd)]
    exact e
  refine ⟨x, dx, v, m, w, rfl, upd_same, hm.same s0, h0, hl, hw, hrw, fun t H' o ho ht => ?_⟩
  exact q _ (fun b u e => o _ _ (ne_of_none e nx) (s0 _ _ e)) ⟨⟨x, dx, t, rfl, ho, ht⟩, hrw⟩
theorem pss_wk {X : Cx} {st : List Stmt} {t t' : TS} (h : PSs X st t) (hm : ∀ D σ H, t' D σ H → t D σ H) : PSs X st t' := ⟨fun pins s σ H D I q => h.run pins s σ H D I (hm D σ H q)⟩
def tK (M : L2.St → Hp → Prop) : TS := fun D σ H => M σ H ∧ ∀ H', D.rt (.bl true) H'
abbrev XL (P : Program) (w : World) {K : PySem.W.Frag} {mg : Str → Option Value} (base : Heap) (T : Top K mg) (cdv : Value) (A : Around) (outer : List Env) (s : Shared) (H : Hp) (E : XK) : Cx :=
  (cxOf CX0 P w K mg base ["script", "numbers", "rank", "gram", "k", "tail", "v", "value", "i", "j", "turn"] "law" (defScope s_law) T.a_law cdv A outer s H E).nox
def sp_law (K : PySem.W.Frag) : Sp := fun vs H Q _ => ∃ (a : Addr) (ns : List Int), vs = [.ref a] ∧ SqL K H a (ns.map V.int) ∧ ns.length ≤ 63 ∧ (∀ z ∈ ns, Builtin.Int.intBits z ≤ 1048576) ∧ ∀ H', Q (.bl true) H'
structure Lf (K : PySem.W.Frag) (C : Addr) (H : Hp) (p : Addr) (gv tv : V) (n s : Nat) (e : Int) (rs m : List (List Int)) : Prop where
  nu : NumAt H p
  la : LAs p H gv m
  gt : IsGrid K C H tv (tailM m n s) (n - s)
  tri : Tri n rs
  gr : GramOf n e rs m
  e0 : 0 ≤ e
  n4 : n ≤ 4
  sn : s < n
def MC (K : PySem.W.Frag) (C : Addr) : L2.St → Hp → Prop := fun σ H => ∃ (a0 p : Addr) (n s : Nat) (e : Int) (rs m : List (List Int)) (gv tv vv : V) (v : List Int) (y8 y9 : Option V),
  σ = [some (.ref a0), some (.ref p), some (.int n), some gv, some (.int ((s + 1 : Nat) : Int)), some tv, some vv, some (.int (sumF (n - s) fun i => sumF (n - s) fun j => ent (tailM m n s) i j * v.getD (s + i) 0 * v.getD (s + j) 0)), y8, y9, none] ∧ Lf K C H p gv tv n s e rs m ∧ LRow H vv v ∧ v.length = n ∧ Bits 3 v
theorem ent_at {m : List (List Int)} {N i j : Nat} (hl : m.length = N) (hr : ∀ r ∈ m, r.length = N) (hi : i < N) (hj : j < N) : ∃ r, m[i]? = some r ∧ r[j]? = some (ent m i j) := by
  have hi' : i < m.length := by omega
  have hr' := hr m[i] (List.getElem_mem hi')
  refine ⟨m[i], List.getElem?_eq_getElem hi', ?_⟩
  unfold ent
  rw [List.getD_eq_getElem?_getD (l := m), List.getElem?_eq_getElem hi', List.getD_eq_getElem?_getD]
  show _ = some ((m[i][j]?).getD 0)
  rw [List.getElem?_eq_getElem (by omega)]
  rfl
theorem tailM_bits {n s : Nat} {m : List (List Int)} (hn : n ≤ 4) (hs : s < n) (sq : Sq n 8 m) : ∀ r ∈ tailM m n s, Bits 90 r := fun r hr x hx => by
  have sqU := upL_sq sq (Nat.le_of_lt hs)
  have lri := riL_len sq (Nat.le_of_lt hs)
  have bd := bare_bits (by omega) sqU
  have b2 := mulM_bits (mulM_bits (transp_bits (riL_row (s := s) sq) (riL_bits (s := s) sq)) (fun r hr => by rw [transp_row r hr, lri]; omega) (adjM_bits (by omega) sqU) (fun r hr => by rw [adjM_row r hr, sqU.len])) (fun r hr => by rw [mulM_row r hr]; omega) (riL_bits (s := s) sq) (riL_row (s := s) sq)
  unfold tailM zipM at hr
  obtain ⟨i, hi⟩ := List.getElem?_of_mem hr
  rw [List.getElem?_zipWith] at hi
  cases e1 : (scaleM (bare s 1 1 (upL m s)) (loL m s))[i]? with
  | none => rw [e1] at hi; cases hi
  | some ra =>
    cases e2 : (mulM (mulM (transp (riL m s) (n - s)) (adjM (s - 1) (upL m s)) s) (riL m s) (n - s))[i]? with
    | none => rw [e1, e2] at hi; cases hi
    | some rb =>
      rw [e1, e2] at hi
      have hi' := Option.some.inj hi
      rw [← hi'] at hx
      obtain ⟨j, hj⟩ := List.getElem?_of_mem hx
      rw [List.getElem?_zipWith] at hj
      cases f1 : ra[j]? with
      | none => rw [f1] at hj; cases hj
      | some a =>
        cases f2 : rb[j]? with
        | none => rw [f1, f2] at hj; cases hj
        | some b =>
          rw [f1, f2] at hj
          have hj' : a - b = x := Option.some.inj hj
          have hb : b.natAbs < 2 ^ (8 + 65 + 3 + 8 + 3) := b2 rb (List.mem_of_getElem? e2) b (List.mem_of_getElem? f2)
          have ha : a.natAbs ≤ 2 ^ 65 * 2 ^ 8 := by
            obtain ⟨rc, hc, rfl⟩ := List.mem_map.mp (List.mem_of_getElem? e1)
            obtain ⟨c, hc2, rfl⟩ := List.mem_map.mp (List.mem_of_getElem? f1)
            rw [Int.natAbs_mul]
            exact Nat.mul_le_mul (Nat.le_of_lt bd) (Nat.le_of_lt (loL_bits (s := s) sq rc hc c hc2))
          have hx2 : x.natAbs ≤ a.natAbs + b.natAbs := by omega
          have p1 : (2 : Nat) ^ 65 * 2 ^ 8 + 2 ^ (8 + 65 + 3 + 8 + 3) < 2 ^ 90 := by decide
          omega
theorem sumF_le {b : Nat} : ∀ (n : Nat) (f : Nat → Int), (∀ i, i < n → (f i).natAbs ≤ b) → (sumF n f).natAbs ≤ n * b
  | 0, f, _ => by simp [sumF]
  | n + 1, f, h => by
    have h1 := sumF_le n f fun i hi => h i (by omega)
    have h2 := h n (by omega)
    show (sumF n f + f n).natAbs ≤ _
    rw [Nat.succ_mul]
    omega
theorem quad_bits {n : Nat} {m : List (List Int)} {v : List Int} (hn : n ≤ 4) (sq : Sq n 8 m) (lv : v.length = n) (bv : Bits 3 v) : (quadL m (fun i => v.getD i 0) n).natAbs < 2 ^ 20 := by
  have h1 : ∀ i j, i < n → j < n → (ent m i j * v.getD i 0 * v.getD j 0).natAbs ≤ 16384 := fun i j hi hj => by
    obtain ⟨_, _, _, hb⟩ := ent_get sq hi hj
    have b1 := bv.at (getD_get (v := v) (i := i) (by omega))
    have b2 := bv.at (getD_get (v := v) (i := j) (by omega))
    rw [Int.natAbs_mul, Int.natAbs_mul]
    have := Nat.mul_le_mul (Nat.mul_le_mul (Nat.le_of_lt hb) (Nat.le_of_lt b1)) (Nat.le_of_lt b2)
    exact this
  have h2 : (quadL m (fun i => v.getD i 0) n).natAbs ≤ n * (n * 16384) := sumF_le n _ fun i hi => sumF_le n _ fun j hj => h1 i j hi hj
  have h3 : n * (n * 16384) ≤ 4 * (4 * 16384) := Nat.mul_le_mul hn (Nat.mul_le_mul_right _ hn)
  show _ < 1048576
  omega
theorem chC (T : Top K mg) (hN : base.NoSeer) (hT : P.given.tree = none) {cdv : Value} {A : Around} {outer : List Env} {s : Shared} {H0 : Hp} {E : XK} (hr : Room 47 (A.deeper (envOfC "law" (defScope s_law) s.heap.objs.size T.a_law cdv))) :
    PSs (XL P w base T cdv A outer s H0 E) ((defBody s_law).drop 9) (tK (MC K T.C_Grid)) := by
  refine pss_wk ((pss_cons (ps_if (PW.pt (pw_or (pt_cmpR op_lt (pv 7) pe_int (nomark _)) (pw_or1 (pt_cmpR op_gt (pv 7) (pe_op op_mulX (pe_c (cal_law_minor T hN hT) hr (by decide) (by rfl) (pa_cons (pv 3) (pa_cons (pe_op op_sub (pv 4) pe_int) pa_nil))) (pe_c (cal_law_norm T hN hT) hr (by decide) (by rfl) (pa_cons (pv 3) (pa_cons (pv 6) pa_nil)))) (nomark _)))))
      (pss_one (ps_ret pe_bl))
      pss_nil)
      (pss_cons (ps_if (PW.pt (pw_and (pt_cmpR op_eq (pv 4) pe_int (nomark _)) (pw_and1 (pt_cmpR op_ne (pv 7) (pe_c (cal_law_norm T hN hT) hr (by decide) (by rfl) (pa_cons (pv 3) (pa_cons (pv 6) pa_nil))) (nomark _)))))
      (pss_one (ps_ret pe_bl))
      pss_nil)
      (pss_one (ps_ret (pe_or (pe_cmpR op_ne (pv 4) (pv 2) (nomark _)) (pe_one (pe_cmpR op_eq (pe_ix (ixT K rfl) (pe_ix (ixT K rfl) (fldK K rfl (pv 5) rfl) pe_int (fun _ _ => rfl)) pe_int (fun _ _ => rfl)) (pe_c (cal_law_determinant T hN hT) hr (by decide) (by rfl) (pa_cons (pv 3) pa_nil)) (nomark _))))))))) ?_
  rintro D σ H ⟨⟨a0, p, n, s, e, rs, m, gv, tv, vv, v, y8, y9, rfl, f, hv, lv, bv⟩, q⟩
  have tf := tail_fact f.n4 f.sn f.tri f.gr f.e0 (fun i => v.getD i 0)
  obtain ⟨t1, t2, t3, t4, t5, t6⟩ := tf
  have hn4 := f.n4
  have hsn := f.sn
  have sq := f.gr.sq
  generalize (sumF (n - s) fun i => sumF (n - s) fun j => ent (tailM m n s) i j * v.getD (s + i) 0 * v.getD (s + j) 0) = val at t3 t4 t5 ⊢
  have e1 : (((s + 1 : Nat) : Int) - 1) = (s : Int) := by omega
  have hv0 := f.la.rows
  have bq := quad_bits hn4 sq lv bv
  have bd : (detL s (upL m s)).natAbs < 2 ^ 65 := by
    refine Nat.lt_of_lt_of_le (detL_le (by omega) (upL_sq sq (Nat.le_of_lt hsn))) (Nat.pow_le_pow_right (by decide) ?_)
    omega
  refine ⟨_, rfl, _, _, rfl, rfl, _, rfl, ?_⟩
  rw [decide_eq_false (show ¬ val < 0 by omega)]
  refine iteF ?_
  refine ⟨_, rfl, _, rfl, _, rfl, _, _, rfl, rfl, gv, m, n, 8, s, ?_, hv0, sq, Nat.le_of_lt hsn, by omega, by decide, fun H1 s1 => ?_⟩
  · show [gv, V.int (((s + 1 : Nat) : Int) - 1)] ++ [] = _
    rw [e1]
    rfl
  refine ⟨_, rfl, _, rfl, gv, vv, m, v, n, 8, rfl, LRows.same s1 hv0, LRow.same s1 hv, sq, lv, bv, by omega, by decide, fun H2 s2 => ?_⟩
  refine ⟨_, _, rfl, rfl, mulx_ok bd bq (by decide), _, _, rfl, rfl, _, rfl, ?_⟩
  rw [decide_eq_false (show ¬ detL s (upL m s) * quadL m (fun i => v.getD i 0) n < val by omega)]
  refine iteF ?_
  have s12 := s1.trans s2
  have fin : ∀ H5, Same H H5 → tRet (tOrV (tOp rNe (tVar 4) (tVar 2)) (tOp rEq (tOp (rIxT K) (tOp (rIxT K) (tFld K (tVar 5) (Str.ofString "rows")) (tC (V.int 0))) (tC (V.int 0))) (tCall (sp_law_determinant) [] C8.E0 (tCons (tVar 3) tNil)))) D
      [some (V.ref a0), some (V.ref p), some (V.int n), some gv, some (V.int ((s + 1 : Nat) : Int)), some tv, some vv, some (V.int val), y8, y9, none] H5 := by
    intro H5 s5
    refine ⟨_, rfl, _, rfl, rfl, _, rfl, ?_⟩
    by_cases hk : s + 1 = n
    · rw [show (!decide (V.int ((s + 1 : Nat) : Int) = V.int (n : Int))) = false by rw [hk, decide_eq_true rfl]; rfl]
      refine iteF ?_
      obtain ⟨⟨pt, dt, tt, rfl, hot, htt⟩, hrt⟩ := id (IsGrid.same s5 f.gt)
      obtain ⟨qt, wst, rfl, hqt, hpt⟩ := id htt
      obtain ⟨r0, er0, er00⟩ := ent_at (i := 0) (j := 0) t1 hrt (by omega) (by omega)
      obtain ⟨v0, ev0, b0, rfl, hb0⟩ := Paired.getL hpt er0
      refine ⟨_, rfl, pt, _, dt, _, _, rfl, hot, T.cl_Grid, T.n_rows, flds_rows _ _, qt, _, _, _, rfl, rfl, hqt, atI_nat (j := 0) ev0, b0, _, _, _, rfl, rfl, hb0, atI_nat (j := 0) (ints_at er00), ?_⟩
      obtain ⟨n', rfl⟩ : ∃ n', n = n' + 1 := ⟨n - 1, by omega⟩
      refine ⟨_, rfl, n', by omega, gv, m, 8, rfl, LRows.same s5 hv0, sq, by decide, fun H6 s6 => ?_⟩
      refine ⟨rfl, ?_⟩
      rw [t6 hk, decide_eq_true rfl]
      exact q _
    · rw [show (!decide (V.int ((s + 1 : Nat) : Int) = V.int (n : Int))) = true by rw [decide_eq_false fun z => hk (by have := V.int.inj z; omega)]; rfl]
      exact iteT (q _)
  refine ⟨_, rfl, rfl, _, rfl, ?_⟩
  by_cases h0 : s = 0
  · rw [show decide (V.int ((s + 1 : Nat) : Int) = V.int 1) = true by rw [h0]; exact decide_eq_true rfl]
    refine iteT ?_
    refine ⟨_, rfl, _, rfl, _, rfl, gv, vv, m, v, n, 8, rfl, LRows.same s12 hv0, LRow.same s12 hv, sq, lv, bv, by omega, by decide, fun H3 s3 => ?_⟩
    refine ⟨rfl, _, rfl, ?_⟩
    rw [show (!decide (V.int val = V.int (quadL m (fun i => v.getD i 0) n))) = false by rw [t5 h0, decide_eq_true rfl]; rfl]
    refine iteF ?_
    exact fin _ (s12.trans s3)
  · rw [show decide (V.int ((s + 1 : Nat) : Int) = V.int 1) = false from decide_eq_false fun z => by have := V.int.inj z; omega]
    refine iteF ?_
    show (if false = true then _ else _)
    refine iteF ?_
    exact fin _ s12
theorem ne_grid {K : PySem.W.Frag} {C : Addr} {H : Hp} {u v : V} {m : List (List Int)} {w : Nat} {Q : VK} (G1 : IsGrid K C H u m w) (G2 : IsGrid K C H v m w) (q : Q (.bl false) H) : rOwnNe C (sp_Grid_eq K C) L2.E0 u v H Q := by
  obtain ⟨⟨p1, d1, t1, rfl, h1, _⟩, _⟩ := id G1
  obtain ⟨⟨p2, d2, t2, rfl, h2, _⟩, _⟩ := id G2
  refine ⟨p1, p2, d1, d2, _, _, rfl, rfl, h1, h2, _, m, w, _, m, rfl, G1, .inl ⟨w, G2, _, rfl, ?_⟩⟩
  rw [show decide (m = m ∧ w = w) = true from decide_eq_true ⟨rfl, rfl⟩]
  exact q
def MB (K : PySem.W.Frag) (C : Addr) : L2.St → Hp → Prop := fun σ H => ∃ (a0 p : Addr) (n s : Nat) (e : Int) (rs m : List (List Int)) (gv tv : V),
  σ = [some (.ref a0), some (.ref p), some (.int n), some gv, some (.int ((s + 1 : Nat) : Int)), some tv, none, none, none, none, none] ∧ Lf K C H p gv tv n s e rs m
theorem chB (T : Top K mg) (hN : base.NoSeer) (hT : P.given.tree = none) {cdv : Value} {A : Around} {outer : List Env} {s : Shared} {H0 : Hp} {E : XK} (hr : Room 47 (A.deeper (envOfC "law" (defScope s_law) s.heap.objs.size T.a_law cdv))) :
    PSs (XL P w base T cdv A outer s H0 E) ((defBody s_law).drop 5) (tK (MB K T.C_Grid)) := by
  refine pss_wk ((pss_cons (ps_if (PW.pt (pw_or (pt_cmpR op_ne (pe_callB (lenS K rfl) (by rfl) T.z_len (by decide +kernel) (pa_cons (fldK K rfl (pv 5) rfl) pa_nil)) (pe_op op_add (pe_op op_sub (pv 2) (pv 4)) pe_int) (nomark _)) (pw_or1 (pt_cmpR ((op_ownNe (E := L2.E0) T.km_Grid T.ne_Grid T.m_Grid_eq.at_ T.m_Grid_eq.fn (ok_Grid_eq T hN hT) (hr.mono (by decide)) T.b_Grid_eq (fun _ _ _ _ h => h.elim))) (pv 5) (pe_mt0 (met_Grid_transposed T hN hT) hr (by decide) (pv 5)) (nomark _)))))
      (pss_one (ps_ret pe_bl))
      pss_nil)
      (pss_cons (ps_setLc (i := 6) (own := [("turn", 10)]) (g := (gName 10)) (by rfl) sc_law.nd rfl rfl (sw_true rfl rfl rfl (by decide +kernel)) (pi_range1 (by rfl) T.z_range (pa_cons (pv 2) pa_nil)) ((by show BlkOk ["script", "numbers", "rank", "gram", "k", "tail", "v", "value", "i", "j", "turn"] (defScope s_law) _ _; exact blkOk_by (by decide +kernel))) (fun _ _ _ _ _ => (pg_name (i := 10) sc_law.nd rfl (by first | exact .inl rfl | exact .inr rfl))) (fun _ _ _ _ _ => pts_nil) (fun _ _ _ _ _ => (pe_op op_sub (pe_c (cal_law_next T hN hT) hr (by decide) (by rfl) (pa_cons (pv 1) (pa_cons pe_int pa_nil))) pe_int)))
      (pss_cons (ps_set (i := 7) sc_law.nd rfl (by first | exact .inl rfl | exact .inr rfl) pe_int)
      (pss_cons (ps_for PassesOwn.never rfl (pi_range1 (by rfl) T.z_range (pa_cons (pe_callB (lenS K rfl) (by rfl) T.z_len (by decide +kernel) (pa_cons (fldK K rfl (pv 5) rfl) pa_nil)) pa_nil)) (pg_name (i := 8) sc_law.nd rfl (by first | exact .inl rfl | exact .inr rfl))
      (pss_one (ps_for PassesOwn.never rfl (pi_range1 (by rfl) T.z_range (pa_cons (pe_callB (lenS K rfl) (by rfl) T.z_len (by decide +kernel) (pa_cons (fldK K rfl (pv 5) rfl) pa_nil)) pa_nil)) (pg_name (i := 9) sc_law.nd rfl (by first | exact .inl rfl | exact .inr rfl))
      (pss_one (ps_set (i := 7) sc_law.nd rfl (by first | exact .inl rfl | exact .inr rfl) (pe_op op_add (pv 7) (pe_op op_mulX (pe_op op_mulX (pe_ix (ixT K rfl) (pe_ix (ixT K rfl) (fldK K rfl (pv 5) rfl) (pv 8) (fun _ _ => rfl)) (pv 9) (fun _ _ => rfl)) (pe_ix (ixL K rfl) (pv 6) (pe_op op_add (pe_op op_sub (pv 4) pe_int) (pv 8)) (fun _ _ => rfl))) (pe_ix (ixL K rfl) (pv 6) (pe_op op_add (pe_op op_sub (pv 4) pe_int) (pv 9)) (fun _ _ => rfl)))))))))
      (chC T hN hT hr)))))) ?_
  rintro D σ H ⟨⟨a0, p, n, s, e, rs, m, gv, tv, rfl, f⟩, q⟩
  have tf := tail_fact f.n4 f.sn f.tri f.gr f.e0 (fun i => 0)
  obtain ⟨t1, t2, _, _, _, _⟩ := tf
  have hn4 := f.n4
  have hsn := f.sn
  have sq := f.gr.sq
  obtain ⟨⟨pt, dt, tt, rfl, hot, htt⟩, hrt⟩ := id f.gt
  obtain ⟨qt, wst, rfl, hqt, hpt⟩ := id htt
  have lwt := Paired.length hpt
  -- len(tail.rows) != rank - k + 1
  refine ⟨_, rfl, pt, _, dt, _, _, rfl, hot, T.cl_Grid, T.n_rows, flds_rows _ _, qt, _, rfl, .inr hqt, ?_⟩
  refine ⟨_, rfl, _, rfl, _, _, rfl, rfl, _, _, rfl, rfl, rfl, _, rfl, ?_⟩
  rw [show (!decide (V.int (wst.length : Int) = V.int ((n : Int) - ((s + 1 : Nat) : Int) + 1))) = false by rw [lwt, t1, decide_eq_true (congrArg V.int (by omega))]; rfl]
  refine iteF ?_
  -- tail != tail.transposed()
  refine ⟨_, rfl, _, rfl, pt, dt, _, rfl, hot, m_transposed _ _, _, tailM m n s, n - s, rfl, f.gt, by omega, by omega, fun g2 H2 s2 G2 => ?_⟩
  rw [t2, t1] at G2
  refine ne_grid (IsGrid.same s2 f.gt) G2 ⟨_, rfl, ?_⟩
  refine iteF ?_
  -- v
  have nu2 := f.nu.same s2
  refine ⟨_, rfl, (n : Int), rfl, by omega, by omega, fun D1 hD => ?_⟩
  have hpD : p ≠ D1 := by
    obtain ⟨l, e⟩ := nu2.ref
    exact ne_of_none e hD
  refine lc_val walk_range (by omega) (fun H4 => Off p H2 H4 ∧ NumAt H4 p) ⟨Same.off (same_upd hD), nu2.same (same_upd hD)⟩ (fun _ _ => trivial) ?_ (fun _ v => ∃ z : Int, v = V.int z ∧ z.natAbs ≤ 4) ?_ gm_name ?_
  · rintro H4 acc acc' ⟨o4, nu4⟩ _
    refine ⟨fun b u n h => ?_, nu4.upd_ne hpD⟩
    rw [upd_ne (ne_of_none h hD)]
    exact o4 _ _ n h
  · rintro k x H4 H4' acc Ko hk ⟨o4, nu4⟩ eD ⟨rfl, rfl⟩ kc
    refine ⟨rfl, ?_⟩
    refine ⟨_, rfl, p, 9, rfl, nu4, by decide, fun r H5 hr5 o5 nu5 => ⟨_, _, rfl, rfl, ?_⟩⟩
    have eD5 : H5 D1 = some (.lst acc) := o5 _ _ (Ne.symm hpD) eD
    exact kc _ _ ⟨Off.trans o4 o5, nu5⟩ eD5 ⟨(r : Int) - 4, rfl, by omega⟩
  · rintro H4 l2 ⟨o4, nu4⟩ eD hpl2
    obtain ⟨zs, rfl, lz, bz⟩ := vals_small hpl2
    rw [List.length_range] at lz
    have lz' : zs.length = n := by omega
    have bz3 : Bits 3 zs := fun z hz => Nat.lt_of_le_of_lt (bz z hz) (by decide)
    have f4 : Lf K T.C_Grid H4 p gv (.ref pt) n s e rs m := ⟨nu4, (f.la.same s2).offp o4, gridN nu2 o4 (IsGrid.same s2 f.gt), f.tri, f.gr, f.e0, f.n4, f.sn⟩
    obtain ⟨⟨pt', dt', tt', ept, hot', htt'⟩, hrt'⟩ := id f4.gt
    cases ept
    obtain ⟨qt', wst', rfl, hqt', hpt'⟩ := id htt'
    have lwt' := Paired.length hpt'
    have tb := tailM_bits hn4 hsn sq
    -- value
    refine ⟨_, rfl, pt, _, dt', _, _, rfl, hot', T.cl_Grid, T.n_rows, flds_rows _ _, qt', _, rfl, .inr hqt', _, rfl, by omega, by omega, ?_⟩
    rw [show (((wst'.length : Nat) : Int)).toNat = n - s by rw [lwt', t1]; exact Int.toNat_natCast _]
    refine for_it walk_range (fun i σ H3 => ∃ y8 y9, σ = [some (.ref a0), some (.ref p), some (.int n), some gv, some (.int ((s + 1 : Nat) : Int)), some (.ref pt), some (.ref D1), some (.int (sumF i fun i => sumF (n - s) fun j => ent (tailM m n s) i j * zs.getD (s + i) 0 * zs.getD (s + j) 0)), y8, y9, none] ∧ H3 = H4) ⟨_, _, rfl, rfl⟩ (fun _ _ _ _ _ => trivial) ?_ ?_
    · rintro i zz σ H3 H3' hi ⟨y8, y9, rfl, rfl⟩ ⟨rfl, rfl⟩
      refine ⟨_, rfl, pt, _, dt', _, _, rfl, hot', T.cl_Grid, T.n_rows, flds_rows _ _, qt', _, rfl, .inr hqt', _, rfl, by omega, by omega, ?_⟩
      rw [show (((wst'.length : Nat) : Int)).toNat = n - s by rw [lwt', t1]; exact Int.toNat_natCast _]
      refine for_it walk_range (fun j σ H3 => ∃ y9, σ = [some (.ref a0), some (.ref p), some (.int n), some gv, some (.int ((s + 1 : Nat) : Int)), some (.ref pt), some (.ref D1), some (.int ((sumF i fun i => sumF (n - s) fun j => ent (tailM m n s) i j * zs.getD (s + i) 0 * zs.getD (s + j) 0) + sumF j fun j => ent (tailM m n s) i j * zs.getD (s + i) 0 * zs.getD (s + j) 0)), some (.int (0 + (i : Int))), y9, none] ∧ H3 = H3') ⟨_, by show _ = [_, _, _, _, _, _, _, some (V.int ((sumF i fun i => sumF (n - s) fun j => ent (tailM m n s) i j * zs.getD (s + i) 0 * zs.getD (s + j) 0) + 0)), _, _, _]; rw [Int.add_zero]; rfl, rfl⟩ (fun _ _ _ _ _ => trivial) ?_ ?_
      · rintro j zz σ H5 H5' hj ⟨y9, rfl, rfl⟩ ⟨rfl, rfl⟩
        obtain ⟨r, er, erj⟩ := ent_at t1 hrt' hi hj
        obtain ⟨v1, ev1, c, rfl, hc⟩ := Paired.getL hpt' er
        have hb := (tb r (List.mem_of_getElem? er)).at erj
        have ei := getD_get (v := zs) (i := s + i) (by omega)
        have ej := getD_get (v := zs) (i := s + j) (by omega)
        refine ⟨_, rfl, _, rfl, pt, _, dt', _, _, rfl, hot', T.cl_Grid, T.n_rows, flds_rows _ _, _, rfl, qt', _, _, _, rfl, rfl, hqt', at_of (j := i) (by omega) ev1, _, rfl, c, _, _, _, rfl, rfl, hc, at_of (j := j) (by omega) (ints_at erj), ?_⟩
        refine ⟨_, rfl, _, rfl, _, _, rfl, rfl, _, rfl, _, _, rfl, rfl, D1, _, _, _, rfl, rfl, .inl (.inl eD), at_of (j := s + i) (by omega) (ints_at ei), ?_⟩
        refine ⟨_, _, rfl, rfl, mulx_ok hb (bz3.at ei) (by decide), ?_⟩
        refine ⟨_, rfl, _, rfl, _, _, rfl, rfl, _, rfl, _, _, rfl, rfl, D1, _, _, _, rfl, rfl, .inl (.inl eD), at_of (j := s + j) (by omega) (ints_at ej), ?_⟩
        refine ⟨_, _, rfl, rfl, mulx_ok (wide_lt hb (bz3.at ei)) (bz3.at ej) (by decide), ?_⟩
        refine ⟨_, _, rfl, rfl, ?_⟩
        refine ⟨some (.int (0 + (j : Int))), ?_, rfl⟩
        show _ = [_, _, _, _, _, _, _, some (V.int ((sumF i fun i => sumF (n - s) fun j => ent (tailM m n s) i j * zs.getD (s + i) 0 * zs.getD (s + j) 0) + ((sumF j fun j => ent (tailM m n s) i j * zs.getD (s + i) 0 * zs.getD (s + j) 0) + ent (tailM m n s) i j * zs.getD (s + i) 0 * zs.getD (s + j) 0))), _, _, _]
        rw [← Int.add_assoc]
        rfl
      · rintro σ H5 ⟨y9, rfl, rfl⟩
        exact ⟨_, _, rfl, rfl⟩
    · rintro σ H3 ⟨y8, y9, rfl, rfl⟩
      exact ⟨⟨a0, p, n, s, e, rs, m, gv, _, _, zs, y8, y9, rfl, f4, ⟨D1, rfl, eD⟩, lz', bz3⟩, q⟩
theorem ok_law (T : Top K mg) (hN : base.NoSeer) (hT : P.given.tree = none) : FnOk P w K mg base CX0 48 T.a_law T.d_law ["script"] (sp_law K) := by
  refine T.F_law.ok sc_law (fun vs H Q E h => ?_) (fun cdv A outer s H vs Q E hr h => ?_)
  · obtain ⟨a, ns, rfl, _⟩ := h
    rfl
  · obtain ⟨a0, ns, rfl, hsc, hl, hb, q⟩ := h
    refine ⟨_, ((pss_cons (ps_set (i := 1) sc_law.nd rfl (by first | exact .inl rfl | exact .inr rfl) (pe_c (cal_law_numbers T hN hT) hr (by decide) (by rfl) (pa_cons (pv 0) pa_nil)))
      (pss_cons (ps_set (i := 2) sc_law.nd rfl (by first | exact .inl rfl | exact .inr rfl) (pe_op op_add pe_int (pe_c (cal_law_next T hN hT) hr (by decide) (by rfl) (pa_cons (pv 1) (pa_cons pe_int pa_nil)))))
      (pss_cons (ps_set (i := 3) sc_law.nd rfl (by first | exact .inl rfl | exact .inr rfl) (pe_c (cal_law_gram T hN hT) hr (by decide) (by rfl) (pa_cons (pv 1) (pa_cons (pv 2) pa_nil))))
      (pss_cons (ps_set (i := 4) sc_law.nd rfl (by first | exact .inl rfl | exact .inr rfl) (pe_op op_add pe_int (pe_c (cal_law_next T hN hT) hr (by decide) (by rfl) (pa_cons (pv 1) (pa_cons (pv 2) pa_nil)))))
      (pss_cons (ps_set (i := 5) sc_law.nd rfl (by first | exact .inl rfl | exact .inr rfl) (pe_c (cal_tail_matrix T hN hT) hr (by decide) (by rfl) (pa_cons (pe_mk (mak_Grid_N T hN hT) hr (by decide) (by rfl) (pa_cons (pv 3) pa_nil)) (pa_cons (pv 4) pa_nil))))
      (chB T hN hT hr))))))), ?_⟩
    refine ⟨_, rfl, a0, ns, rfl, hsc, hl, fun p H1 s1 np nu1 => ?_⟩
    refine ⟨_, rfl, p, 4, rfl, nu1, by decide, fun r H2 hr4 o2 nu2 => ⟨_, _, rfl, rfl, ?_⟩⟩
    have e1 : (1 + (r : Int)) = ((r + 1 : Nat) : Int) := by omega
    dsimp only
    rw [e1]
    refine ⟨_, rfl, _, rfl, p, r + 1, rfl, nu2, by omega, by omega, fun gv e rs m H3 o3 nu3 la3 tri he gr => ?_⟩
    refine ⟨_, rfl, _, rfl, p, r + 1, rfl, nu3, by omega, fun s H4 hs o4 nu4 => ⟨_, _, rfl, rfl, ?_⟩⟩
    have e2 : (1 + (s : Int)) = ((s + 1 : Nat) : Int) := by omega
    dsimp only
    rw [e2]
    have la4 := la3.offp o4
    have hlen := gr.sq.len
    refine ⟨_, rfl, ?_⟩
    intro gx gd ngx ngd nge
    refine make_gridN ngx ngd la4.rows.irows (by omega) (by omega) (w := r + 1) (by omega) gr.sq.row fun H5 s5 G5 => ⟨rfl, ?_⟩
    refine ⟨_, rfl, .ref gx, m, r + 1, s, rfl, G5, gr.sq, by omega, by omega, fun tv H6 s6 G6 => ?_⟩
    exact ⟨⟨a0, p, r + 1, s, e, rs, m, gv, tv, rfl, ⟨nu4.same (s5.trans s6), la4.same (s5.trans s6), G6, tri, gr, he.1, by omega, by omega⟩⟩, q⟩

end
end K14
namespace K14
open PySem PySem.Spec PyProof.Rows L2 Gm
theorem all_mk {l : PySem.W.OpenLaw} {w : World} {K : PySem.W.Frag} {h : Heap} {mg : Str → Option Value} {fa C_Grid X_Malformed f1 f2 f3 f4 f5 f6 f7 f8 f9 f10 f11 f12 f13 f14 f15 f16 f17 f18 f19 f20 f21 f22 f23 f24 f25 f26 f27 f28 f29 : Addr} (X : K.In h) (G : h.Ns mainGlobals mg) (hfa : mg "law" = some (.ref fa)) (hT : l.prog.given.tree = none)
    {od1 an1 od2 an2 od3 an3 od4 an4 od5 an5 od6 an6 od7 an7 od8 an8 od9 an9 od10 an10 od11 an11 od12 an12 od13 an13 od14 an14 od15 an15 od16 an16 od17 an17 od18 an18 od19 an19 od20 an20 od21 an21 od22 an22 od23 an23 od24 an24 od25 an25 od26 an26 od27 an27 od28 an28 od29 an29 : Option Addr} {sl1 sl2 sl3 sl4 sl5 sl6 sl7 sl8 sl9 sl10 sl11 sl12 sl13 sl14 sl15 sl16 sl17 sl18 sl19 sl20 sl21 sl22 sl23 sl24 sl25 sl26 sl27 sl28 sl29 : Array (Option Value)} {oc1 kV1 dc1 pm1 cd1 ct1 oc2 kV2 dc2 pm2 cd2 ct2 oc3 kV3 dc3 pm3 cd3 ct3 oc4 kV4 dc4 pm4 cd4 ct4 oc5 kV5 dc5 pm5 cd5 ct5 oc6 kV6 dc6 pm6 cd6 ct6 oc7 kV7 dc7 pm7 cd7 ct7 oc8 kV8 dc8 pm8 cd8 ct8 oc9 kV9 dc9 pm9 cd9 ct9 oc10 kV10 dc10 pm10 cd10 ct10 oc11 kV11 dc11 pm11 cd11 ct11 oc12 kV12 dc12 pm12 cd12 ct12 oc13 kV13 dc13 pm13 cd13 ct13 oc14 kV14 dc14 pm14 cd14 ct14 oc15 kV15 dc15 pm15 cd15 ct15 oc16 kV16 dc16 pm16 cd16 ct16 oc17 kV17 dc17 pm17 cd17 ct17 oc18 kV18 dc18 pm18 cd18 ct18 oc19 kV19 dc19 pm19 cd19 ct19 oc20 kV20 dc20 pm20 cd20 ct20 oc21 kV21 dc21 pm21 cd21 ct21 oc22 kV22 dc22 pm22 cd22 ct22 oc23 kV23 dc23 pm23 cd23 ct23 oc24 kV24 dc24 pm24 cd24 ct24 oc25 kV25 dc25 pm25 cd25 ct25 oc26 kV26 dc26 pm26 cd26 ct26 oc27 kV27 dc27 pm27 cd27 ct27 oc28 kV28 dc28 pm28 cd28 ct28 oc29 kV29 dc29 pm29 cd29 ct29 : Value}
    {t9 : Addr} {tc9 : Value} {td9 : Option Addr} {tn9 : Nat} {ts9 : Array (Option Value)}
    (A1 : PySem.W.nsIn K mainGlobals "is_integer" = some (some (.ref f1)))
    (L1 : K.lookup f1 = some ⟨oc1, od1, .func (PySem.W.fnOf "is_integer" "is_integer" (defArgs s_is_integer) (defBody s_is_integer) (defScope s_is_integer) .none kV1 dc1 pm1 an1 cd1 ct1), sl1⟩)
    (D1 : PySem.W.codeIn K cd1 "is_integer" = true)
    (K1 : PySem.W.keepIn K (.ref f1) = true)
    (A2 : PySem.W.nsIn K mainGlobals "dot" = some (some (.ref f2)))
    (L2 : K.lookup f2 = some ⟨oc2, od2, .func (PySem.W.fnOf "dot" "dot" (defArgs s_dot) (defBody s_dot) (defScope s_dot) .none kV2 dc2 pm2 an2 cd2 ct2), sl2⟩)
    (D2 : PySem.W.codeIn K cd2 "dot" = true)
    (K2 : PySem.W.keepIn K (.ref f2) = true)
    (A3 : PySem.W.nsIn K mainGlobals "determinant_of" = some (some (.ref f3)))
    (L3 : K.lookup f3 = some ⟨oc3, od3, .func (PySem.W.fnOf "determinant_of" "determinant_of" (defArgs s_determinant_of) (defBody s_determinant_of) (defScope s_determinant_of) .none kV3 dc3 pm3 an3 cd3 ct3), sl3⟩)
    (D3 : PySem.W.codeIn K cd3 "determinant_of" = true)
    (K3 : PySem.W.keepIn K (.ref f3) = true)
    (A4 : PySem.W.nsIn K mainGlobals "first_with_head" = some (some (.ref f4)))
    (L4 : K.lookup f4 = some ⟨oc4, od4, .func (PySem.W.fnOf "first_with_head" "first_with_head" (defArgs s_first_with_head) (defBody s_first_with_head) (defScope s_first_with_head) .none kV4 dc4 pm4 an4 cd4 ct4), sl4⟩)
    (D4 : PySem.W.codeIn K cd4 "first_with_head" = true)
    (K4 : PySem.W.keepIn K (.ref f4) = true)
    (A5 : PySem.W.nsIn K mainGlobals "cleared" = some (some (.ref f5)))
    (L5 : K.lookup f5 = some ⟨oc5, od5, .func (PySem.W.fnOf "cleared" "cleared" (defArgs s_cleared) (defBody s_cleared) (defScope s_cleared) .none kV5 dc5 pm5 an5 cd5 ct5), sl5⟩)
    (D5 : PySem.W.codeIn K cd5 "cleared" = true)
    (K5 : PySem.W.keepIn K (.ref f5) = true)
    (A6 : PySem.W.nsIn K mainGlobals "minor" = some (some (.ref f6)))
    (L6 : K.lookup f6 = some ⟨oc6, od6, .func (PySem.W.fnOf "minor" "minor" (defArgs s_minor) (defBody s_minor) (defScope s_minor) .none kV6 dc6 pm6 an6 cd6 ct6), sl6⟩)
    (D6 : PySem.W.codeIn K cd6 "minor" = true)
    (K6 : PySem.W.keepIn K (.ref f6) = true)
    (A7 : PySem.W.nsIn K mainGlobals "adjugate_of" = some (some (.ref f7)))
    (L7 : K.lookup f7 = some ⟨oc7, od7, .func (PySem.W.fnOf "adjugate_of" "adjugate_of" (defArgs s_adjugate_of) (defBody s_adjugate_of) (defScope s_adjugate_of) .none kV7 dc7 pm7 an7 cd7 ct7), sl7⟩)
    (D7 : PySem.W.codeIn K cd7 "adjugate_of" = true)
    (K7 : PySem.W.keepIn K (.ref f7) = true)
    (A8 : PySem.W.nsIn K mainGlobals "signed_minor" = some (some (.ref f8)))
    (L8 : K.lookup f8 = some ⟨oc8, od8, .func (PySem.W.fnOf "signed_minor" "signed_minor" (defArgs s_signed_minor) (defBody s_signed_minor) (defScope s_signed_minor) .none kV8 dc8 pm8 an8 cd8 ct8), sl8⟩)
    (D8 : PySem.W.codeIn K cd8 "signed_minor" = true)
    (K8 : PySem.W.keepIn K (.ref f8) = true)
    (A9 : PySem.W.findIn K (.ref C_Grid) "__init__" = some (some (.ref f9)))
    (I9 : PySem.W.isFn K (.ref f9) = true)
    (L9 : K.lookup f9 = some ⟨oc9, od9, .func (PySem.W.fnOf "__init__" "Grid.__init__" (defArgs s_Grid_init) (defBody s_Grid_init) (defScope s_Grid_init) (.ref t9) kV9 dc9 pm9 an9 cd9 ct9), sl9⟩)
    (T9 : K.lookup t9 = some ⟨tc9, td9, .seq [Value.none].toArray tn9, ts9⟩)
    (D9 : PySem.W.codeIn K cd9 "Grid.__init__" = true)
    (K9 : PySem.W.keepIn K (.ref f9) = true)
    (A10 : PySem.W.findIn K (.ref C_Grid) "__eq__" = some (some (.ref f10)))
    (I10 : PySem.W.isFn K (.ref f10) = true)
    (L10 : K.lookup f10 = some ⟨oc10, od10, .func (PySem.W.fnOf "__eq__" "Grid.__eq__" (defArgs s_Grid_eq) (defBody s_Grid_eq) (defScope s_Grid_eq) .none kV10 dc10 pm10 an10 cd10 ct10), sl10⟩)
    (D10 : PySem.W.codeIn K cd10 "Grid.__eq__" = true)
    (K10 : PySem.W.keepIn K (.ref f10) = true)
    (A11 : PySem.W.findIn K (.ref C_Grid) "__sub__" = some (some (.ref f11)))
    (I11 : PySem.W.isFn K (.ref f11) = true)
    (L11 : K.lookup f11 = some ⟨oc11, od11, .func (PySem.W.fnOf "__sub__" "Grid.__sub__" (defArgs s_Grid_sub) (defBody s_Grid_sub) (defScope s_Grid_sub) .none kV11 dc11 pm11 an11 cd11 ct11), sl11⟩)
    (D11 : PySem.W.codeIn K cd11 "Grid.__sub__" = true)
    (K11 : PySem.W.keepIn K (.ref f11) = true)
    (A12 : PySem.W.findIn K (.ref C_Grid) "__mul__" = some (some (.ref f12)))
    (I12 : PySem.W.isFn K (.ref f12) = true)
    (L12 : K.lookup f12 = some ⟨oc12, od12, .func (PySem.W.fnOf "__mul__" "Grid.__mul__" (defArgs s_Grid_mul) (defBody s_Grid_mul) (defScope s_Grid_mul) .none kV12 dc12 pm12 an12 cd12 ct12), sl12⟩)
    (D12 : PySem.W.codeIn K cd12 "Grid.__mul__" = true)
    (K12 : PySem.W.keepIn K (.ref f12) = true)
    (A13 : PySem.W.findIn K (.ref C_Grid) "scaled" = some (some (.ref f13)))
    (I13 : PySem.W.isFn K (.ref f13) = true)
    (L13 : K.lookup f13 = some ⟨oc13, od13, .func (PySem.W.fnOf "scaled" "Grid.scaled" (defArgs s_Grid_scaled) (defBody s_Grid_scaled) (defScope s_Grid_scaled) .none kV13 dc13 pm13 an13 cd13 ct13), sl13⟩)
    (D13 : PySem.W.codeIn K cd13 "Grid.scaled" = true)
    (K13 : PySem.W.keepIn K (.ref f13) = true)
    (A14 : PySem.W.findIn K (.ref C_Grid) "transposed" = some (some (.ref f14)))
    (I14 : PySem.W.isFn K (.ref f14) = true)
    (L14 : K.lookup f14 = some ⟨oc14, od14, .func (PySem.W.fnOf "transposed" "Grid.transposed" (defArgs s_Grid_transposed) (defBody s_Grid_transposed) (defScope s_Grid_transposed) .none kV14 dc14 pm14 an14 cd14 ct14), sl14⟩)
    (D14 : PySem.W.codeIn K cd14 "Grid.transposed" = true)
    (K14 : PySem.W.keepIn K (.ref f14) = true)
    (A15 : PySem.W.findIn K (.ref C_Grid) "is_square" = some (some (.ref f15)))
    (I15 : PySem.W.isFn K (.ref f15) = true)
    (L15 : K.lookup f15 = some ⟨oc15, od15, .func (PySem.W.fnOf "is_square" "Grid.is_square" (defArgs s_Grid_is_square) (defBody s_Grid_is_square) (defScope s_Grid_is_square) .none kV15 dc15 pm15 an15 cd15 ct15), sl15⟩)
    (D15 : PySem.W.codeIn K cd15 "Grid.is_square" = true)
    (K15 : PySem.W.keepIn K (.ref f15) = true)
    (A16 : PySem.W.findIn K (.ref C_Grid) "determinant" = some (some (.ref f16)))
    (I16 : PySem.W.isFn K (.ref f16) = true)
    (L16 : K.lookup f16 = some ⟨oc16, od16, .func (PySem.W.fnOf "determinant" "Grid.determinant" (defArgs s_Grid_determinant) (defBody s_Grid_determinant) (defScope s_Grid_determinant) .none kV16 dc16 pm16 an16 cd16 ct16), sl16⟩)
    (D16 : PySem.W.codeIn K cd16 "Grid.determinant" = true)
    (K16 : PySem.W.keepIn K (.ref f16) = true)
    (A17 : PySem.W.findIn K (.ref C_Grid) "adjugate" = some (some (.ref f17)))
    (I17 : PySem.W.isFn K (.ref f17) = true)
    (L17 : K.lookup f17 = some ⟨oc17, od17, .func (PySem.W.fnOf "adjugate" "Grid.adjugate" (defArgs s_Grid_adjugate) (defBody s_Grid_adjugate) (defScope s_Grid_adjugate) .none kV17 dc17 pm17 an17 cd17 ct17), sl17⟩)
    (D17 : PySem.W.codeIn K cd17 "Grid.adjugate" = true)
    (K17 : PySem.W.keepIn K (.ref f17) = true)
    (A18 : PySem.W.nsIn K mainGlobals "checked_rows" = some (some (.ref f18)))
    (L18 : K.lookup f18 = some ⟨oc18, od18, .func (PySem.W.fnOf "checked_rows" "checked_rows" (defArgs s_checked_rows) (defBody s_checked_rows) (defScope s_checked_rows) .none kV18 dc18 pm18 an18 cd18 ct18), sl18⟩)
    (D18 : PySem.W.codeIn K cd18 "checked_rows" = true)
    (K18 : PySem.W.keepIn K (.ref f18) = true)
    (A19 : PySem.W.nsIn K mainGlobals "checked_width" = some (some (.ref f19)))
    (L19 : K.lookup f19 = some ⟨oc19, od19, .func (PySem.W.fnOf "checked_width" "checked_width" (defArgs s_checked_width) (defBody s_checked_width) (defScope s_checked_width) .none kV19 dc19 pm19 an19 cd19 ct19), sl19⟩)
    (D19 : PySem.W.codeIn K cd19 "checked_width" = true)
    (K19 : PySem.W.keepIn K (.ref f19) = true)
    (A20 : PySem.W.nsIn K mainGlobals "check_same_size" = some (some (.ref f20)))
    (L20 : K.lookup f20 = some ⟨oc20, od20, .func (PySem.W.fnOf "check_same_size" "check_same_size" (defArgs s_check_same_size) (defBody s_check_same_size) (defScope s_check_same_size) .none kV20 dc20 pm20 an20 cd20 ct20), sl20⟩)
    (D20 : PySem.W.codeIn K cd20 "check_same_size" = true)
    (K20 : PySem.W.keepIn K (.ref f20) = true)
    (A21 : PySem.W.nsIn K mainGlobals "check_square" = some (some (.ref f21)))
    (L21 : K.lookup f21 = some ⟨oc21, od21, .func (PySem.W.fnOf "check_square" "check_square" (defArgs s_check_square) (defBody s_check_square) (defScope s_check_square) .none kV21 dc21 pm21 an21 cd21 ct21), sl21⟩)
    (D21 : PySem.W.codeIn K cd21 "check_square" = true)
    (K21 : PySem.W.keepIn K (.ref f21) = true)
    (A22 : PySem.W.nsIn K mainGlobals "tail_matrix" = some (some (.ref f22)))
    (L22 : K.lookup f22 = some ⟨oc22, od22, .func (PySem.W.fnOf "tail_matrix" "tail_matrix" (defArgs s_tail_matrix) (defBody s_tail_matrix) (defScope s_tail_matrix) .none kV22 dc22 pm22 an22 cd22 ct22), sl22⟩)
    (D22 : PySem.W.codeIn K cd22 "tail_matrix" = true)
    (K22 : PySem.W.keepIn K (.ref f22) = true)
    (A23 : PySem.W.nsIn K mainGlobals "_law_numbers" = some (some (.ref f23)))
    (L23 : K.lookup f23 = some ⟨oc23, od23, .func (PySem.W.fnOf "_law_numbers" "_law_numbers" (defArgs s_law_numbers) (defBody s_law_numbers) (defScope s_law_numbers) .none kV23 dc23 pm23 an23 cd23 ct23), sl23⟩)
    (D23 : PySem.W.codeIn K cd23 "_law_numbers" = true)
    (K23 : PySem.W.keepIn K (.ref f23) = true)
    (A24 : PySem.W.nsIn K mainGlobals "_law_next" = some (some (.ref f24)))
    (L24 : K.lookup f24 = some ⟨oc24, od24, .func (PySem.W.fnOf "_law_next" "_law_next" (defArgs s_law_next) (defBody s_law_next) (defScope s_law_next) .none kV24 dc24 pm24 an24 cd24 ct24), sl24⟩)
    (D24 : PySem.W.codeIn K cd24 "_law_next" = true)
    (K24 : PySem.W.keepIn K (.ref f24) = true)
    (A25 : PySem.W.nsIn K mainGlobals "_law_gram" = some (some (.ref f25)))
    (L25 : K.lookup f25 = some ⟨oc25, od25, .func (PySem.W.fnOf "_law_gram" "_law_gram" (defArgs s_law_gram) (defBody s_law_gram) (defScope s_law_gram) .none kV25 dc25 pm25 an25 cd25 ct25), sl25⟩)
    (D25 : PySem.W.codeIn K cd25 "_law_gram" = true)
    (K25 : PySem.W.keepIn K (.ref f25) = true)
    (A26 : PySem.W.nsIn K mainGlobals "_law_norm" = some (some (.ref f26)))
    (L26 : K.lookup f26 = some ⟨oc26, od26, .func (PySem.W.fnOf "_law_norm" "_law_norm" (defArgs s_law_norm) (defBody s_law_norm) (defScope s_law_norm) .none kV26 dc26 pm26 an26 cd26 ct26), sl26⟩)
    (D26 : PySem.W.codeIn K cd26 "_law_norm" = true)
    (K26 : PySem.W.keepIn K (.ref f26) = true)
    (A27 : PySem.W.nsIn K mainGlobals "_law_minor" = some (some (.ref f27)))
    (L27 : K.lookup f27 = some ⟨oc27, od27, .func (PySem.W.fnOf "_law_minor" "_law_minor" (defArgs s_law_minor) (defBody s_law_minor) (defScope s_law_minor) .none kV27 dc27 pm27 an27 cd27 ct27), sl27⟩)
    (D27 : PySem.W.codeIn K cd27 "_law_minor" = true)
    (K27 : PySem.W.keepIn K (.ref f27) = true)
    (A28 : PySem.W.nsIn K mainGlobals "_law_determinant" = some (some (.ref f28)))
    (L28 : K.lookup f28 = some ⟨oc28, od28, .func (PySem.W.fnOf "_law_determinant" "_law_determinant" (defArgs s_law_determinant) (defBody s_law_determinant) (defScope s_law_determinant) .none kV28 dc28 pm28 an28 cd28 ct28), sl28⟩)
    (D28 : PySem.W.codeIn K cd28 "_law_determinant" = true)
    (K28 : PySem.W.keepIn K (.ref f28) = true)
    (A29 : PySem.W.nsIn K mainGlobals "law" = some (some (.ref f29)))
    (L29 : K.lookup f29 = some ⟨oc29, od29, .func (PySem.W.fnOf "law" "law" (defArgs s_law) (defBody s_law) (defScope s_law) .none kV29 dc29 pm29 an29 cd29 ct29), sl29⟩)
    (D29 : PySem.W.codeIn K cd29 "law" = true)
    (K29 : PySem.W.keepIn K (.ref f29) = true)
    (aC_Grid : PySem.W.nsIn K mainGlobals "Grid" = some (some (.ref C_Grid)))
    (pg_Grid : PySem.W.plainGet K C_Grid Str.empty = true)
    (hd_Grid : PySem.W.hasDictIn K C_Grid = true)
    (po_Grid : PySem.W.plainOver K C_Grid = true)
    (sa_Grid : PySem.W.findIn K (.ref C_Grid) "__setattr__" = some (some (.builtin "object.__setattr__")))
    (mk_Grid : PySem.W.makesIn K C_Grid = true)
    (kc_Grid : PySem.W.keepIn K (.ref C_Grid) = true)
    (nr_Grid : PySem.W.findIn K (.ref C_Grid) "rows" = some none)
    (nw_Grid : PySem.W.findIn K (.ref C_Grid) "width" = some none)
    (sf_Grid : PySem.W.selfFirst K C_Grid = true)
    (yc_Grid : PySem.W.findIn K (.ref C_Grid) "__class__" = some (some (.builtin "object.__class__")))
    (yg_Grid : PySem.W.specialIn K (.builtin "object.__class__") "__get__" = some (some (.builtin "getset_descriptor.__get__")))
    (yt_Grid : PySem.W.takesIn K (.builtin "object.__class__") = some true)
    (ym_Grid : PySem.W.mroIn K C_Grid (.type "object") = some true)
    (yt2_Grid : PySem.W.typeIn K (.ref C_Grid) = some (.type "type"))
    (yi_Grid : PySem.W.isClsIn K C_Grid = true)
    (yn_Grid : PySem.W.findIn K (.ref C_Grid) "__ne__" = some (some (.builtin "object.__ne__")))
    (z_ValueError : PySem.W.nsIn K mainGlobals "ValueError" = some none)
    (z_abs : PySem.W.nsIn K mainGlobals "abs" = some none)
    (z_all : PySem.W.nsIn K mainGlobals "all" = some none)
    (z_bool : PySem.W.nsIn K mainGlobals "bool" = some none)
    (z_enumerate : PySem.W.nsIn K mainGlobals "enumerate" = some none)
    (z_int : PySem.W.nsIn K mainGlobals "int" = some none)
    (z_isinstance : PySem.W.nsIn K mainGlobals "isinstance" = some none)
    (z_len : PySem.W.nsIn K mainGlobals "len" = some none)
    (z_list : PySem.W.nsIn K mainGlobals "list" = some none)
    (z_min : PySem.W.nsIn K mainGlobals "min" = some none)
    (z_range : PySem.W.nsIn K mainGlobals "range" = some none)
    (z_sum : PySem.W.nsIn K mainGlobals "sum" = some none)
    (z_tuple : PySem.W.nsIn K mainGlobals "tuple" = some none)
    (z_zip : PySem.W.nsIn K mainGlobals "zip" = some none)
    (aX_Malformed : PySem.W.nsIn K mainGlobals "Malformed" = some (some (.ref X_Malformed)))
    (xX_Malformed : PySem.W.excIn K X_Malformed [.type "ValueError", .type "Exception", .type "BaseException", .type "object"] "ValueError.__new__" = true)
    (kX_Malformed : PySem.W.keepIn K (.ref X_Malformed) = true)
    (bX_Malformed : PySem.W.subIn K (.ref X_Malformed) (.type "BaseException") = some true)
    (tX_Malformed : PySem.W.typeIn K (.ref X_Malformed) = some (.type "type"))
    (iX_Malformed : PySem.W.isClsIn K X_Malformed = true)
    (sX_Malformed : PySem.W.subIn K (.ref X_Malformed) (.ref X_Malformed) = some true)
    : ∃ fd : FuncData, (∀ (s : Shared) (v : Value), BindsTo s fd ⟨[v], []⟩ [("script", v)]) ∧ ∀ base : Heap, K.In base → base.Ns mainGlobals mg → base.NoSeer → FnOk l.prog w K mg base CX0 48 fa fd ["script"] (sp_law K) := by
  have e := hfa.symm.trans (PySem.W.mg_of X G A29)
  cases e
  have F1 := fun_mk (st := s_is_integer) L1 D1 K1
  have b1 := F1.binds (ps := ["value"]) fun _ _ _ _ _ _ us hl => match us, hl with | [_], _ => rfl
  have F2 := fun_mk (st := s_dot) L2 D2 K2
  have b2 := F2.binds (ps := ["a", "b"]) fun _ _ _ _ _ _ us hl => match us, hl with | [_, _], _ => rfl
  have F3 := fun_mk (st := s_determinant_of) L3 D3 K3
  have b3 := F3.binds (ps := ["rows"]) fun _ _ _ _ _ _ us hl => match us, hl with | [_], _ => rfl
  have F4 := fun_mk (st := s_first_with_head) L4 D4 K4
  have b4 := F4.binds (ps := ["rows"]) fun _ _ _ _ _ _ us hl => match us, hl with | [_], _ => rfl
  have F5 := fun_mk (st := s_cleared) L5 D5 K5
  have b5 := F5.binds (ps := ["top", "row", "last"]) fun _ _ _ _ _ _ us hl => match us, hl with | [_, _, _], _ => rfl
  have F6 := fun_mk (st := s_minor) L6 D6 K6
  have b6 := F6.binds (ps := ["rows", "i", "j"]) fun _ _ _ _ _ _ us hl => match us, hl with | [_, _, _], _ => rfl
  have F7 := fun_mk (st := s_adjugate_of) L7 D7 K7
  have b7 := F7.binds (ps := ["rows"]) fun _ _ _ _ _ _ us hl => match us, hl with | [_], _ => rfl
  have F8 := fun_mk (st := s_signed_minor) L8 D8 K8
  have b8 := F8.binds (ps := ["rows", "i", "j"]) fun _ _ _ _ _ _ us hl => match us, hl with | [_, _, _], _ => rfl
  have F9 : FunD K "__init__" "Grid.__init__" (defArgs s_Grid_init) (defBody s_Grid_init) (defScope s_Grid_init) [.non] [] f9 _ := ⟨⟨oc9, od9, _, kV9, dc9, pm9, an9, cd9, ct9, sl9, rfl, L9, D9, .inr ⟨by simp, t9, _, [.none], tn9, rfl, T9, rfl, .cons rfl .nil⟩, .inl rfl⟩, K9⟩
  obtain ⟨ds9, vd9, b9⟩ := F9.binds1 (ps := ["self", "rows", "width"]) 3 1 (by simp) rfl fun _ _ _ _ _ _ _ us its hl hi => match us, hl, its, hi with | [_, _, _], _, [_], _ => ⟨_, rfl, rfl⟩
  obtain rfl : ds9 = [] := by cases vd9; rfl
  have F10 := fun_mk (st := s_Grid_eq) L10 D10 K10
  have b10 := F10.binds (ps := ["self", "other"]) fun _ _ _ _ _ _ us hl => match us, hl with | [_, _], _ => rfl
  have F11 := fun_mk (st := s_Grid_sub) L11 D11 K11
  have b11 := F11.binds (ps := ["self", "other"]) fun _ _ _ _ _ _ us hl => match us, hl with | [_, _], _ => rfl
  have F12 := fun_mk (st := s_Grid_mul) L12 D12 K12
  have b12 := F12.binds (ps := ["self", "other"]) fun _ _ _ _ _ _ us hl => match us, hl with | [_, _], _ => rfl
  have F13 := fun_mk (st := s_Grid_scaled) L13 D13 K13
  have b13 := F13.binds (ps := ["self", "k"]) fun _ _ _ _ _ _ us hl => match us, hl with | [_, _], _ => rfl
  have F14 := fun_mk (st := s_Grid_transposed) L14 D14 K14
  have b14 := F14.binds (ps := ["self"]) fun _ _ _ _ _ _ us hl => match us, hl with | [_], _ => rfl
  have F15 := fun_mk (st := s_Grid_is_square) L15 D15 K15
  have b15 := F15.binds (ps := ["self"]) fun _ _ _ _ _ _ us hl => match us, hl with | [_], _ => rfl
  have F16 := fun_mk (st := s_Grid_determinant) L16 D16 K16
  have b16 := F16.binds (ps := ["self"]) fun _ _ _ _ _ _ us hl => match us, hl with | [_], _ => rfl
  have F17 := fun_mk (st := s_Grid_adjugate) L17 D17 K17
  have b17 := F17.binds (ps := ["self"]) fun _ _ _ _ _ _ us hl => match us, hl with | [_], _ => rfl
  have F18 := fun_mk (st := s_checked_rows) L18 D18 K18
  have b18 := F18.binds (ps := ["rows"]) fun _ _ _ _ _ _ us hl => match us, hl with | [_], _ => rfl
  have F19 := fun_mk (st := s_checked_width) L19 D19 K19
  have b19 := F19.binds (ps := ["rows", "width"]) fun _ _ _ _ _ _ us hl => match us, hl with | [_, _], _ => rfl
  have F20 := fun_mk (st := s_check_same_size) L20 D20 K20
  have b20 := F20.binds (ps := ["a", "b"]) fun _ _ _ _ _ _ us hl => match us, hl with | [_, _], _ => rfl
  have F21 := fun_mk (st := s_check_square) L21 D21 K21
  have b21 := F21.binds (ps := ["a"]) fun _ _ _ _ _ _ us hl => match us, hl with | [_], _ => rfl
  have F22 := fun_mk (st := s_tail_matrix) L22 D22 K22
  have b22 := F22.binds (ps := ["gram", "k"]) fun _ _ _ _ _ _ us hl => match us, hl with | [_, _], _ => rfl
  have F23 := fun_mk (st := s_law_numbers) L23 D23 K23
  have b23 := F23.binds (ps := ["script"]) fun _ _ _ _ _ _ us hl => match us, hl with | [_], _ => rfl
  have F24 := fun_mk (st := s_law_next) L24 D24 K24
  have b24 := F24.binds (ps := ["numbers", "many"]) fun _ _ _ _ _ _ us hl => match us, hl with | [_, _], _ => rfl
  have F25 := fun_mk (st := s_law_gram) L25 D25 K25
  have b25 := F25.binds (ps := ["numbers", "rank"]) fun _ _ _ _ _ _ us hl => match us, hl with | [_, _], _ => rfl
  have F26 := fun_mk (st := s_law_norm) L26 D26 K26
  have b26 := F26.binds (ps := ["gram", "v"]) fun _ _ _ _ _ _ us hl => match us, hl with | [_, _], _ => rfl
  have F27 := fun_mk (st := s_law_minor) L27 D27 K27
  have b27 := F27.binds (ps := ["gram", "size"]) fun _ _ _ _ _ _ us hl => match us, hl with | [_, _], _ => rfl
  have F28 := fun_mk (st := s_law_determinant) L28 D28 K28
  have b28 := F28.binds (ps := ["rows"]) fun _ _ _ _ _ _ us hl => match us, hl with | [_], _ => rfl
  have F29 := fun_mk (st := s_law) L29 D29 K29
  have b29 := F29.binds (ps := ["script"]) fun _ _ _ _ _ _ us hl => match us, hl with | [_], _ => rfl
  let T : Top K mg := { a_is_integer := f1, d_is_integer := _, F_is_integer := F1, b_is_integer := b1, g_is_integer := PySem.W.mg_of X G A1, a_dot := f2, d_dot := _, F_dot := F2, b_dot := b2, g_dot := PySem.W.mg_of X G A2, a_determinant_of := f3, d_determinant_of := _, F_determinant_of := F3, b_determinant_of := b3, g_determinant_of := PySem.W.mg_of X G A3, a_first_with_head := f4, d_first_with_head := _, F_first_with_head := F4, b_first_with_head := b4, g_first_with_head := PySem.W.mg_of X G A4, a_cleared := f5, d_cleared := _, F_cleared := F5, b_cleared := b5, g_cleared := PySem.W.mg_of X G A5, a_minor := f6, d_minor := _, F_minor := F6, b_minor := b6, g_minor := PySem.W.mg_of X G A6, a_adjugate_of := f7, d_adjugate_of := _, F_adjugate_of := F7, b_adjugate_of := b7, g_adjugate_of := PySem.W.mg_of X G A7, a_signed_minor := f8, d_signed_minor := _, F_signed_minor := F8, b_signed_minor := b8, g_signed_minor := PySem.W.mg_of X G A8, a_Grid_init := f9, d_Grid_init := _, F_Grid_init := F9, b_Grid_init := b9, a_Grid_eq := f10, d_Grid_eq := _, F_Grid_eq := F10, b_Grid_eq := b10, m_Grid_eq := ⟨A10, I10, K10⟩, a_Grid_sub := f11, d_Grid_sub := _, F_Grid_sub := F11, b_Grid_sub := b11, m_Grid_sub := ⟨A11, I11, K11⟩, a_Grid_mul := f12, d_Grid_mul := _, F_Grid_mul := F12, b_Grid_mul := b12, m_Grid_mul := ⟨A12, I12, K12⟩, a_Grid_scaled := f13, d_Grid_scaled := _, F_Grid_scaled := F13, b_Grid_scaled := b13, m_Grid_scaled := ⟨A13, I13, K13⟩, a_Grid_transposed := f14, d_Grid_transposed := _, F_Grid_transposed := F14, b_Grid_transposed := b14, m_Grid_transposed := ⟨A14, I14, K14⟩, a_Grid_is_square := f15, d_Grid_is_square := _, F_Grid_is_square := F15, b_Grid_is_square := b15, m_Grid_is_square := ⟨A15, I15, K15⟩, a_Grid_determinant := f16, d_Grid_determinant := _, F_Grid_determinant := F16, b_Grid_determinant := b16, m_Grid_determinant := ⟨A16, I16, K16⟩, a_Grid_adjugate := f17, d_Grid_adjugate := _, F_Grid_adjugate := F17, b_Grid_adjugate := b17, m_Grid_adjugate := ⟨A17, I17, K17⟩, a_checked_rows := f18, d_checked_rows := _, F_checked_rows := F18, b_checked_rows := b18, g_checked_rows := PySem.W.mg_of X G A18, a_checked_width := f19, d_checked_width := _, F_checked_width := F19, b_checked_width := b19, g_checked_width := PySem.W.mg_of X G A19, a_check_same_size := f20, d_check_same_size := _, F_check_same_size := F20, b_check_same_size := b20, g_check_same_size := PySem.W.mg_of X G A20, a_check_square := f21, d_check_square := _, F_check_square := F21, b_check_square := b21, g_check_square := PySem.W.mg_of X G A21, a_tail_matrix := f22, d_tail_matrix := _, F_tail_matrix := F22, b_tail_matrix := b22, g_tail_matrix := PySem.W.mg_of X G A22, a_law_numbers := f23, d_law_numbers := _, F_law_numbers := F23, b_law_numbers := b23, g_law_numbers := PySem.W.mg_of X G A23, a_law_next := f24, d_law_next := _, F_law_next := F24, b_law_next := b24, g_law_next := PySem.W.mg_of X G A24, a_law_gram := f25, d_law_gram := _, F_law_gram := F25, b_law_gram := b25, g_law_gram := PySem.W.mg_of X G A25, a_law_norm := f26, d_law_norm := _, F_law_norm := F26, b_law_norm := b26, g_law_norm := PySem.W.mg_of X G A26, a_law_minor := f27, d_law_minor := _, F_law_minor := F27, b_law_minor := b27, g_law_minor := PySem.W.mg_of X G A27, a_law_determinant := f28, d_law_determinant := _, F_law_determinant := F28, b_law_determinant := b28, g_law_determinant := PySem.W.mg_of X G A28, a_law := fa, d_law := _, F_law := F29, b_law := b29, g_law := PySem.W.mg_of X G A29, C_Grid := C_Grid, g_Grid := PySem.W.mg_of X G aC_Grid, cl_Grid := ⟨pg_Grid, hd_Grid, po_Grid, sa_Grid⟩, mk_Grid := ⟨mk_Grid, A9, I9, kc_Grid⟩, n_rows := nr_Grid, n_width := nw_Grid, sf_Grid := sf_Grid, kc_Grid := yc_Grid, kg_Grid := yg_Grid, kt_Grid := yt_Grid, km_Grid := ym_Grid, ty_Grid := yt2_Grid, ic_Grid := yi_Grid, ne_Grid := yn_Grid, z_ValueError := PySem.W.mg_none_of X G z_ValueError, z_abs := PySem.W.mg_none_of X G z_abs, z_all := PySem.W.mg_none_of X G z_all, z_bool := PySem.W.mg_none_of X G z_bool, z_enumerate := PySem.W.mg_none_of X G z_enumerate, z_int := PySem.W.mg_none_of X G z_int, z_isinstance := PySem.W.mg_none_of X G z_isinstance, z_len := PySem.W.mg_none_of X G z_len, z_list := PySem.W.mg_none_of X G z_list, z_min := PySem.W.mg_none_of X G z_min, z_range := PySem.W.mg_none_of X G z_range, z_sum := PySem.W.mg_none_of X G z_sum, z_tuple := PySem.W.mg_none_of X G z_tuple, z_zip := PySem.W.mg_none_of X G z_zip, X_Malformed := X_Malformed, gX_Malformed := PySem.W.mg_of X G aX_Malformed, xX_Malformed := xX_Malformed, kX_Malformed := kX_Malformed, bX_Malformed := bX_Malformed, tX_Malformed := tX_Malformed, iX_Malformed := iX_Malformed, sX_Malformed := sX_Malformed }
  exact ⟨PySem.W.fnOf "law" "law" (defArgs s_law) (defBody s_law) (defScope s_law) .none kV29 dc29 pm29 an29 cd29 ct29, fun s v => .of_eq rfl, fun base _ _ hN => ok_law (w := w) T hN hT⟩
end K14
open PySem PySem.W PyProof.Rows
set_option maxRecDepth 100000 in
set_option maxHeartbeats 16000000 in
theorem PySem.Challenge.cw_gridmetric_k14_tail_matrices_holds : PySem.Challenge.rw_gridmetric_k14_tail_matrices.Holds := by
  w_on; o_law; k_head; (case hw => w_witness2)
  k_fill
  refine Gm.walk_ofN (n := 63) (k := 48) (sp := K14.sp_law) (x := "script") rfl (by decide) rfl ⟨rfl, by decide, by decide⟩ (by decide +kernel) (fun w h Y => PySem.W.kIn_of Y) ?F ?S
  case F =>
    intro w mg fa h Y KX G hmg
    refine' K14.all_mk KX G hmg rfl ?A1 ?L1 ?D1 ?K1 ?A2 ?L2 ?D2 ?K2 ?A3 ?L3 ?D3 ?K3 ?A4 ?L4 ?D4 ?K4 ?A5 ?L5 ?D5 ?K5 ?A6 ?L6 ?D6 ?K6 ?A7 ?L7 ?D7 ?K7 ?A8 ?L8 ?D8 ?K8 ?A9 ?I9 ?L9 ?T9 ?D9 ?K9 ?A10 ?I10 ?L10 ?D10 ?K10 ?A11 ?I11 ?L11 ?D11 ?K11 ?A12 ?I12 ?L12 ?D12 ?K12 ?A13 ?I13 ?L13 ?D13 ?K13 ?A14 ?I14 ?L14 ?D14 ?K14 ?A15 ?I15 ?L15 ?D15 ?K15 ?A16 ?I16 ?L16 ?D16 ?K16 ?A17 ?I17 ?L17 ?D17 ?K17 ?A18 ?L18 ?D18 ?K18 ?A19 ?L19 ?D19 ?K19 ?A20 ?L20 ?D20 ?K20 ?A21 ?L21 ?D21 ?K21 ?A22 ?L22 ?D22 ?K22 ?A23 ?L23 ?D23 ?K23 ?A24 ?L24 ?D24 ?K24 ?A25 ?L25 ?D25 ?K25 ?A26 ?L26 ?D26 ?K26 ?A27 ?L27 ?D27 ?K27 ?A28 ?L28 ?D28 ?K28 ?A29 ?L29 ?D29 ?K29 ?aC_Grid ?pg_Grid ?hd_Grid ?po_Grid ?sa_Grid ?mk_Grid ?kc_Grid ?nr_Grid ?nw_Grid ?sf_Grid ?yc_Grid ?yg_Grid ?yt_Grid ?ym_Grid ?yt2_Grid ?yi_Grid ?yn_Grid ?z_ValueError ?z_abs ?z_all ?z_bool ?z_enumerate ?z_int ?z_isinstance ?z_len ?z_list ?z_min ?z_range ?z_sum ?z_tuple ?z_zip ?aX_Malformed ?xX_Malformed ?kX_Malformed ?bX_Malformed ?tX_Malformed ?iX_Malformed ?sX_Malformed
    (case aC_Grid => k_is)
    (case aX_Malformed => k_is)
    (case A1 => k_is)
    (case L1 => k_is)
    (case D1 => k_is)
    (case K1 => k_is)
    (case A2 => k_is)
    (case L2 => k_is)
    (case D2 => k_is)
    (case K2 => k_is)
    (case A3 => k_is)
    (case L3 => k_is)
    (case D3 => k_is)
    (case K3 => k_is)
    (case A4 => k_is)
    (case L4 => k_is)
    (case D4 => k_is)
    (case K4 => k_is)
    (case A5 => k_is)
    (case L5 => k_is)
    (case D5 => k_is)
    (case K5 => k_is)
    (case A6 => k_is)
    (case L6 => k_is)
    (case D6 => k_is)
    (case K6 => k_is)
    (case A7 => k_is)
    (case L7 => k_is)
    (case D7 => k_is)
    (case K7 => k_is)
    (case A8 => k_is)
    (case L8 => k_is)
    (case D8 => k_is)
    (case K8 => k_is)
    (case A9 => k_is)
    (case I9 => k_is)
    (case L9 => k_is)
    (case T9 => k_is)
    (case D9 => k_is)
    (case K9 => k_is)
    (case A10 => k_is)
    (case I10 => k_is)
    (case L10 => k_is)
    (case D10 => k_is)
    (case K10 => k_is)
    (case A11 => k_is)
    (case I11 => k_is)
    (case L11 => k_is)
    (case D11 => k_is)
    (case K11 => k_is)
    (case A12 => k_is)
    (case I12 => k_is)
    (case L12 => k_is)
    (case D12 => k_is)
    (case K12 => k_is)
    (case A13 => k_is)
    (case I13 => k_is)
    (case L13 => k_is)
    (case D13 => k_is)
    (case K13 => k_is)
    (case A14 => k_is)
    (case I14 => k_is)
    (case L14 => k_is)
    (case D14 => k_is)
    (case K14 => k_is)
    (case A15 => k_is)
    (case I15 => k_is)
    (case L15 => k_is)
    (case D15 => k_is)
    (case K15 => k_is)
    (case A16 => k_is)
    (case I16 => k_is)
    (case L16 => k_is)
    (case D16 => k_is)
    (case K16 => k_is)
    (case A17 => k_is)
    (case I17 => k_is)
    (case L17 => k_is)
    (case D17 => k_is)
    (case K17 => k_is)
    (case A18 => k_is)
    (case L18 => k_is)
    (case D18 => k_is)
    (case K18 => k_is)
    (case A19 => k_is)
    (case L19 => k_is)
    (case D19 => k_is)
    (case K19 => k_is)
    (case A20 => k_is)
    (case L20 => k_is)
    (case D20 => k_is)
    (case K20 => k_is)
    (case A21 => k_is)
    (case L21 => k_is)
    (case D21 => k_is)
    (case K21 => k_is)
    (case A22 => k_is)
    (case L22 => k_is)
    (case D22 => k_is)
    (case K22 => k_is)
    (case A23 => k_is)
    (case L23 => k_is)
    (case D23 => k_is)
    (case K23 => k_is)
    (case A24 => k_is)
    (case L24 => k_is)
    (case D24 => k_is)
    (case K24 => k_is)
    (case A25 => k_is)
    (case L25 => k_is)
    (case D25 => k_is)
    (case K25 => k_is)
    (case A26 => k_is)
    (case L26 => k_is)
    (case D26 => k_is)
    (case K26 => k_is)
    (case A27 => k_is)
    (case L27 => k_is)
    (case D27 => k_is)
    (case K27 => k_is)
    (case A28 => k_is)
    (case L28 => k_is)
    (case D28 => k_is)
    (case K28 => k_is)
    (case A29 => k_is)
    (case L29 => k_is)
    (case D29 => k_is)
    (case K29 => k_is)
    (case pg_Grid => k_is)
    (case hd_Grid => k_is)
    (case po_Grid => k_is)
    (case sa_Grid => k_is)
    (case mk_Grid => k_is)
    (case kc_Grid => k_is)
    (case nr_Grid => k_is)
    (case nw_Grid => k_is)
    (case sf_Grid => k_is)
    (case yc_Grid => k_is)
    (case yg_Grid => k_is)
    (case yt_Grid => k_is)
    (case ym_Grid => k_is)
    (case yt2_Grid => k_is)
    (case yi_Grid => k_is)
    (case yn_Grid => k_is)
    (case z_ValueError => k_is)
    (case z_abs => k_is)
    (case z_all => k_is)
    (case z_bool => k_is)
    (case z_enumerate => k_is)
    (case z_int => k_is)
    (case z_isinstance => k_is)
    (case z_len => k_is)
    (case z_list => k_is)
    (case z_min => k_is)
    (case z_range => k_is)
    (case z_sum => k_is)
    (case z_tuple => k_is)
    (case z_zip => k_is)
    (case xX_Malformed => k_exc)
    (case kX_Malformed => k_is)
    (case bX_Malformed => k_is)
    (case tX_Malformed => k_is)
    (case iX_Malformed => k_is)
    (case sX_Malformed => first | rfl | k_is)
  case S =>
    intro K H a ns hl hb hs
    exact ⟨a, ns, rfl, hs, hl, hb, fun _ => rfl⟩
