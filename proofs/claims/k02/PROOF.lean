import PyProof.Rows.All
import Wide.All
import OpenK.AllK
import Wide.FinOn
import HandS.WordsExc
import HandS.ForMost
import HandS.Exc
import HandS.TryOnly
import HandS.ExcOwn
import HandS.IsInst
import HandS.Zip
import HandS.Walk
import HandS.Wide
import HandS.WideBits
import HandS.Conv
import HandS.Codes
import HandS.Defaults
import HandS.TupAny
import HandS.Style
import HandS.Gcd
import HandS.EndBits
import HandS.Sort
import HandS.Slots
import HandS.SlotsOwn
import KE.GoesMore
import KE.KOpsOwn
import HandS.HeadEnd
import PySem.Challenge.RW_gridmetric_k02_determinants
set_option Elab.async false
set_option linter.all false
set_option maxRecDepth 100000
set_option maxHeartbeats 40000000
/-! Further rules over the layer: // by any positive divisor; a range that is a value, walked; enumerate of a tuple; operators of an own class. -/
namespace Gm
open PySem PySem.Spec PyProof.Rows L2
section
variable {X : Cx}
/-! ### // by any positive divisor -/
theorem op_fdivP {env : Env} {l : List Env} (hN : X.base.NoSeer) (hst : X.stack = env :: l) (hgen : env.scope.isGenerator = false) (hco : env.scope.isCoroutine = false) (hb : env.builtins = builtinsNs) (hg : env.globals = mainGlobals)
    (ht : X.prog.given.tree = none) (hd : X.A.depth + 100 < recursionLimit) : OpR X (binaryOp .FloorDiv) (rI (fun _ j => 0 < j) fun i j => .int (i / j)) := by
  intro pn s σ H x y v u Q I rx ry h
  obtain ⟨i, j, rfl, rfl, hCond, q⟩ := h
  obtain ⟨t, rfl⟩ := rx
  obtain ⟨t', rfl⟩ := ry
  have h1 : (0 : Int) < j := hCond
  have hs : SeerAt (model X.prog X.w) X.A s.heap := PySem.SeerAt.of (hN.keeps I.bk) ht (I.ok.frames.trans (congrArg some hst)) hgen hco hb hg
  refine floordiv_int (by omega) ?_ (.inr (PySem.PylongRoom.of I.nolimit hd hs))
  rw [Int.fdiv_eq_ediv_of_nonneg i (by omega)]
  exact ⟨.int (i / j), H, I.tok _, ⟨_, rfl⟩, q⟩
theorem op_fdivQ {env : Env} {l : List Env} (hN : X.base.NoSeer) (hst : X.stack = env :: l) (hgen : env.scope.isGenerator = false) (hco : env.scope.isCoroutine = false) (hb : env.builtins = builtinsNs) (hg : env.globals = mainGlobals)
    (ht : X.prog.given.tree = none) (hd : X.A.depth + 100 < recursionLimit) : OpR X (binaryOp .FloorDiv) (rI (fun _ j => j ≠ 0) fun i j => .int (i.fdiv j)) := by
  intro pn s σ H x y v u Q I rx ry h
  obtain ⟨i, j, rfl, rfl, hCond, q⟩ := h
  obtain ⟨t, rfl⟩ := rx
  obtain ⟨t', rfl⟩ := ry
  have hs : SeerAt (model X.prog X.w) X.A s.heap := PySem.SeerAt.of (hN.keeps I.bk) ht (I.ok.frames.trans (congrArg some hst)) hgen hco hb hg
  refine floordiv_int hCond ?_ (.inr (PySem.PylongRoom.of I.nolimit hd hs))
  exact ⟨.int (i.fdiv j), H, I.tok _, ⟨_, rfl⟩, q⟩
theorem room100 {k : Nat} {A : Around} (hr : Room k A) (hk : 40 ≤ k) : A.depth + 100 < recursionLimit := by
  have := hr.dp
  omega
/-! ### a range as a value, and walked -/
theorem cr_range1 : CallR X (.type "range") (fun vs H Q => ∃ j, vs = [V.int j] ∧ ∀ p, H p = none → Q (.ref p) (upd H p (.rng 0 j))) := by
  intro pn s σ H vs argv Q I r h
  obtain ⟨j, rfl, q⟩ := h
  cases r with
  | cons r rr =>
    cases rr
    obtain ⟨t, rfl⟩ := r
    exact call_range_1 ⟨.ref s.heap.objs.size, upd H s.heap.objs.size (.rng 0 j), I.laid (t' := s.toks + 1 + 1) (fun b o e => Heap.get?_push_of_some _ e) (Nat.le_refl _) ⟨_, _, _, Heap.get?_push_size _ rfl⟩, rfl, q _ (I.hok.fresh (Nat.le_refl _))⟩
def iRv (te : TE) : TI := fun σ H R => te σ H fun v H1 => ∃ a lo hi, v = .ref a ∧ H1 a = some (.rng lo hi) ∧ (-(2 ^ 62) ≤ lo ∧ lo < 2 ^ 62 ∧ -(2 ^ 62) ≤ hi ∧ hi < 2 ^ 62) ∧ R (Itr lo (hi - lo).toNat) H1
theorem pi_rngv {tg e : Expr} {te : TE} (he : PE X e te) : PI X tg e (iRv te) := by
  refine ⟨fun pn s σ H R I h => ?_⟩
  refine thn (he.run pn s σ H _ I h) fun v s1 ⟨x, H1, J1, rel1, post1⟩ => ?_
  obtain ⟨a, lo, hi, ex, ha, ⟨post1, q2, q3, q4⟩, q⟩ := post1
  subst ex
  cases rel1
  obtain ⟨t, u, w, hr⟩ := J1.hok a _ ha
  refine wpAny_pyIter_range (show IsRange s1.heap a lo hi 1 t u w from hr) (small_one post1 q2 q3 q4) ?_
  refine ⟨s1.heap.objs.size, [s1.heap.objs.size], _, _, H1, rfl, J1.kept (t' := s1.toks) fun b o e => Heap.get?_push_of_some _ e, turn_range _ lo (hi - lo).toNat, ?_, fun b hb => ?_, q⟩
  · have eLo : lo + ((0 : Nat) : Int) * 1 = lo := by simp
    have eHi : (((hi - lo).toNat : Nat) : Int) - ((0 : Nat) : Int) = Builtin.Range.rangeSize lo hi 1 := by rw [rangeSize_one]; split <;> omega
    show IsRangeIter _ _ (lo + ((0 : Nat) : Int) * 1) ((((hi - lo).toNat : Nat) : Int) - ((0 : Nat) : Int)) 1
    rw [eLo, eHi]
    exact Heap.get?_push_size _ rfl
  · have e : b = s1.heap.objs.size := by simpa using hb
    subst e
    exact J1.fpOk (Nat.le_refl _) (J1.hok.fresh (Nat.le_refl _))
end
end Gm
namespace Gm
open PySem PySem.Spec PyProof.Rows L2
open AutoSeq1 (wpAny_loadPart')
/-! ### enumerate of a tuple -/
theorem meets_enumerate_newT (l : Addr) (items : Array Value) (n : Nat) (dc : Option Addr) (slo : Array (Option Value)) :
    Meets (Builtin.«enumerate.__new__» ⟨[.type "enumerate", .ref l], []⟩) (fun _ R s => s.heap.get? l = some { cls := .type "tuple", dict := dc, data := .seq items n, slots := slo } ∧
      R (.ok (.ret (.ref (s.heap.push { cls := .type "tuple_iterator", data := .fields #[.ref l, .int 0 0] }).objs.size)))
        { s with heap := (s.heap.push { cls := .type "tuple_iterator", data := .fields #[.ref l, .int 0 0] }).push { cls := .type "enumerate", data := .fields #[.none, .bool false, .ref s.heap.objs.size, rawInt 0, .none, .none] } }) :=
  .of_wp fun prog w A R s h => by
    obtain ⟨heap0, g, d, tk0, os0⟩ := s; obtain ⟨hGet, h⟩ := h
    have hsub := sub_enumerate
    have hL : Heap.IsTuple (Shared.heap ⟨heap0, g, d, tk0, os0⟩) l items := ⟨_, hGet, rfl, n, rfl⟩
    wp_walk using wpAny_loadPart' hGet
    refine wpAny_stack_any fun stt => wpAny_pure ?_
    split
    · rename_i c _ _ _ _ _
      cases (c == Value.type "enumerate")
      · wp_walk using wpAny_loadPart' hGet, wpAny_pyIter_tuple hL
        exact ⟨_, rfl, h⟩
      · wp_walk using wpAny_loadPart' hGet, wpAny_pyIter_tuple hL
        exact ⟨_, rfl, h⟩
    · wp_walk using wpAny_loadPart' hGet, wpAny_pyIter_tuple hL
      exact ⟨_, rfl, h⟩
section
variable {prog : Program} {w : World} {A : Around} {E : Value → Shared → Prop} {s : Shared}
theorem call_enumerate_tuple {l : Addr} {items : Array Value} {Q : Value → Shared → Prop} (hL : s.heap.IsTuple l items)
    (h : ∀ h', IsEnum h' (s.heap.objs.size + 1) s.heap.objs.size 0 .none → h'.IsTupleIter s.heap.objs.size l 0 → h'.objs.size = s.heap.objs.size + 2 →
      (∀ b o, s.heap.get? b = some o → h'.get? b = some o) → Q (.ref (s.heap.objs.size + 1)) { s with heap := h' }) :
    wpAny (model prog w) A (call (.type "enumerate") [.ref l]) Q E s := by
  obtain ⟨⟨c, dc, dd, slo⟩, hGet, hCls, n, hDat⟩ := hL
  replace hCls : c = .type "tuple" := hCls
  replace hDat : dd = .seq items n := hDat
  subst hCls hDat
  refine callType_new F.called_enumerate (by decide) (F.typeCall_enumerate_1 _) (F.newCall_enumerate_1 _) (fun obj => F.args_object_init_2 obj _) F.entry_enumerate_new
    (meets_enumerate_newT l items n dc slo) ⟨hGet, ?_⟩
  have hLen : (s.heap.push { cls := .type "tuple_iterator", data := .fields #[.ref l, .int 0 0] }).objs.size = s.heap.objs.size + 1 := Heap.size_push ..
  show _ ∧ _
  rw [hLen]
  have hEn : IsEnum ((s.heap.push { cls := .type "tuple_iterator", data := .fields #[.ref l, .int 0 0] }).push
      { cls := .type "enumerate", data := .fields #[.none, .bool false, .ref s.heap.objs.size, rawInt 0, .none, .none] }) (s.heap.objs.size + 1) s.heap.objs.size 0 .none := by
    have := Heap.get?_push_size (s.heap.push { cls := .type "tuple_iterator", data := .fields #[.ref l, .int 0 0] })
      (o := { cls := .type "enumerate", data := .fields #[.none, .bool false, .ref s.heap.objs.size, rawInt 0, .none, .none] }) rfl
    rw [hLen] at this; exact this
  refine ⟨⟨_, hEn, rfl⟩, h _ hEn ⟨_, Heap.get?_push_of_some _ (Heap.get?_push_size _ rfl), rfl, rfl⟩ (by rw [Heap.size_push, hLen]) fun b o x => Heap.get?_push_of_some _ (Heap.get?_push_of_some _ x)⟩
end
def IteT (K : PySem.W.Frag) (a : Addr) : It :=
  ⟨fun i H => ∃ (xv : List V) (x : V), SqT K H a xv ∧ xv[i]? = some x, fun i H v H' => ∃ T0 x, v = .ref T0 ∧ H T0 = none ∧ H' = upd H T0 (.tup [.int (i : Nat), x]) ∧ ∀ xv, SqT K H a xv → xv[i]? = some x, fun i H => ∃ xv : List V, SqT K H a xv ∧ xv.length ≤ i⟩
theorem turn_enumT {P : Program} {w : World} {K : PySem.W.Frag} {elts : List Expr} {kk : Nat} {tpos : Pos} (a e it : Addr) (hAi : a ≠ it) :
    Turn P w K (.Tuple elts kk tpos) (IteT K a) [e, it] e (fun i h => (∃ ol, IsEnum h e it ((i : Nat) : Int) ol) ∧ h.IsTupleIter it a i ∧ e ≠ it) where
  mem := by simp
  obj := fun i h stt b hBm => by
    obtain ⟨⟨ol, hEn⟩, ⟨o, ho, hCls, hDat⟩, _⟩ := stt
    have ee : b = e ∨ b = it := by simpa using hBm
    rcases ee with zq | zq
    · rw [zq]; exact ⟨_, hEn, fun v q => nomatch q⟩
    · rw [zq]; exact ⟨o, ho, fun v q => by rw [hDat] at q; cases q⟩
  keep := fun i h h' stt k => let ⟨⟨ol, hEn⟩, hIx, hDif⟩ := stt; ⟨⟨ol, k e (by simp) _ hEn⟩, hIx.at fun o q => k it (by simp) o q, hDif⟩
  item := by
    intro X hP hw hK hCls i pn s σ H E I hFp stt hGo
    subst hP hw hK
    obtain ⟨⟨ol, hEn⟩, hTi, hDif⟩ := stt
    obtain ⟨xv, x, hSq, hXi⟩ := hGo
    obtain ⟨vals, hvals, p, hLen⟩ := I.tuple hSq
    obtain ⟨u, hUi, rUi⟩ := hvals.get hXi
    have lEn : e < s.heap.objs.size := Heap.lt_size hEn
    have lTi : it < s.heap.objs.size := by obtain ⟨_, q, _⟩ := hTi; exact Heap.lt_size q
    have p' : s.heap.IsTuple a vals.toArray := p
    have hae : a ≠ e := by
      intro zq
      subst zq
      obtain ⟨o1, e1, c1, _⟩ := p'
      rw [hEn] at e1
      cases e1
      exact absurd (Value.type.inj c1) (by decide)
    have hLt : i < vals.toArray.size := by
      have := (List.getElem?_eq_some_iff.mp hUi).1
      simpa using this
    refine wpAny_pyNext_enum_itemD (Draws.tuple (prog := X.prog) (w := X.w) (A := X.A.in1) (I.ok.hd hCls) it a hAi vals.toArray) hEn ⟨hTi, p'⟩ hLt hDif (by simp [hDif, Ne.symm hae]) fun x' h' tk0 hP ho st' hTy hSz hKp => ?_
    obtain ⟨hit', p2⟩ := st'
    have hx' : x' = u := by
      have : vals[i]? = some x' := by simpa using hP
      rw [hUi] at this
      exact (Option.some.inj this).symm
    subst hx'
    refine ⟨_, rfl, wpAny_letOwnedTupleGo_enum (s := { s with heap := h', toks := tk0 + 1 }) ho fun h'' he' sBig => ?_⟩
    have hTy2 : h''.get? s.heap.objs.size = some { cls := .type "tuple", data := .seq #[.int i tk0, x'] } := (sBig.2 _ (Nat.ne_of_gt lEn)).trans hTy
    have nw : ObjOk X.prog X.w (upd H s.heap.objs.size (.tup [.int (i : Nat), x])) h'' s.heap.objs.size (.tup [.int (i : Nat), x]) :=
      ⟨by show 2 ≤ sizeLine; decide, [.int i tk0, x'], .cons ⟨_, rfl⟩ (.cons rUi .nil), ⟨_, hTy2, rfl, _, rfl⟩⟩
    have J1 : Inv X pn σ (upd H s.heap.objs.size (.tup [.int (i : Nat), x])) { s with heap := h'', toks := tk0 + 1 } :=
      I.turnedNew (ch := [e, it]) (fun b ob hBm q => (sBig.2 b (fun zq => hBm (by simp [zq]))).trans (hKp b ob (fun zq => hBm (by simp [zq])) (fun zq => hBm (by simp [zq])) q)) hFp (Nat.le_refl _) nw
    refine ⟨.ref s.heap.objs.size, _, J1, rfl, ⟨_, x, rfl, I.hok.fresh (Nat.le_refl _), rfl, fun yv hy => by rw [I.tuple_inj hy hSq]; exact hXi⟩, ⟨⟨x', ?_⟩, hit'.at fun o q => (sBig.2 it (Ne.symm hDif)).trans q, hDif⟩, fun b hBm => ?_⟩
    · have e1 : ((i + 1 : Nat) : Int) = (i : Int) + 1 := by omega
      rw [e1]; exact he'
    · have hBm2 : b < s.heap.objs.size := by
        have ee : b = e ∨ b = it := by simpa using hBm
        rcases ee with zq | zq
        · rw [zq]; exact lEn
        · rw [zq]; exact lTi
      rw [upd_ne (Nat.ne_of_lt hBm2)]
      exact (hFp b hBm).1
  done := by
    intro X hP hw hK hCls i pn s σ H E I hFp stt hGo
    subst hP hw hK
    obtain ⟨⟨ol, hEn⟩, hTi, hDif⟩ := stt
    obtain ⟨xv, hSq, hXi⟩ := hGo
    obtain ⟨vals, hvals, p, hLen⟩ := I.tuple hSq
    obtain ⟨f0, f1, f2, f3, f4, f5⟩ := hFp it (by simp)
    have hGet := hvals.length
    have p' : s.heap.IsTuple a vals.toArray := p
    have hTy : s.TypeIs (.ref e) "enumerate" := ⟨_, hEn, rfl⟩
    unfold pyNext
    refine wpAny_bind (wpAny_attempt (wpAny_callSpecial?_slot (name := Str.ofString "__next__") hTy F.slot_enumerate_next
      (wpAny_call_entry F.slot_enumerate_next hTy F.entry_enumerate_next ?_ (F.args_enumerate_next_1 _))))
    show wpAny _ _ (field (.ref e) 2 >>= _) _ _ _
    refine wpAny_bind (wpAny_field hEn rfl (x := .ref it) rfl ?_)
    refine wpAny_bind (wpAny_nextOf_tuple_end (I.ok.hd hCls) hTi p' (by simp; omega) fun h' x he' hx' => ?_)
    obtain ⟨o, ho, hc'⟩ := hx'
    refine wpAny_bind (wpAny_isInstance (T := "StopIteration") (b := true) ⟨o, ho, hc'⟩ isSubtype_stop ?_)
    exact wpAny_pure ⟨rfl, I.turned (t' := s.toks) (fun b o hBm q => he' b o hBm q) f0 f1 f3 f4 f5⟩
  self := fun A i s Q E stt h => let ⟨⟨_, hEn⟩, _⟩ := stt; wpAny_pyIter_enum hEn h
def iEnumA (K : PySem.W.Frag) (ta : TA) : TI := fun σ H R => ta σ H fun wsv HA => ∃ a xv, wsv = [.ref a] ∧ ((SqL K HA a xv ∧ R (Ite K a) HA) ∨ (SqT K HA a xv ∧ R (IteT K a) HA))
theorem pi_enumA {X : Cx} {e : Expr} {ta : TA} {p pos tpos : Pos} {elts : List Expr} {kk : Nat} (hGo : Gl X "enumerate") (hm : X.mg "enumerate" = none) (ha : PA X [e] ta) (hs : starEach [e] X.env = [(false, eval e X.env)] := by rfl) :
    PI X (.Tuple elts kk tpos) (.Call (.Name "enumerate" p) [e] [] pos) (iEnumA X.K ta) := by
  refine ⟨fun pn s σ H R I h => ?_⟩
  refine Call_ (ld_blt I hGo hm boot_enumerate (PyProof.Rows.callWith_type1 (thn (ha.run pos pn s σ H _ I h) fun argv sA ⟨wsv, HA, J1, rel1, post1⟩ => ?_) hs rfl))
  obtain ⟨a, xv, ex, hSq⟩ := post1
  subst ex
  cases rel1 with
  | cons r rr =>
    cases rr
    cases r
    have hFin : ∀ b ∈ [sA.heap.objs.size + 1, sA.heap.objs.size], sA.heap.objs.size ≤ b := fun b hBm => by
      have ee : b = sA.heap.objs.size + 1 ∨ b = sA.heap.objs.size := by simpa using hBm
      rcases ee with zq | zq
      · rw [zq]; exact Nat.le_add_right _ _
      · rw [zq]; exact Nat.le_refl _
    rcases hSq with ⟨hSq, q⟩ | ⟨hSq, q⟩
    · obtain ⟨vals, hvals, p', hLen⟩ := J1.list hSq
      refine call_enumerate_list p'.isList fun h' hEn hTi hSz hKp => wpAny_pyIter_enum hEn ?_
      have J2 : Inv X pn σ HA { sA with heap := h' } := J1.kept (t' := sA.toks) hKp
      exact ⟨sA.heap.objs.size + 1, [sA.heap.objs.size + 1, sA.heap.objs.size], _, _, HA, rfl, J2, turn_enum a (sA.heap.objs.size + 1) sA.heap.objs.size, ⟨⟨.none, hEn⟩, hTi, Nat.succ_ne_self _⟩, fun b hBm => J1.fpOk (hFin b hBm) (J1.hok.fresh (hFin b hBm)), q⟩
    · obtain ⟨vals, hvals, p', hLen⟩ := J1.tuple hSq
      have hAl : a ≠ sA.heap.objs.size := by
        obtain ⟨o, e, _⟩ := (show sA.heap.IsTuple a vals.toArray from p')
        exact Nat.ne_of_lt (Heap.lt_size e)
      refine call_enumerate_tuple (show sA.heap.IsTuple a vals.toArray from p') fun h' hEn hTi hSz hKp => wpAny_pyIter_enum hEn ?_
      have J2 : Inv X pn σ HA { sA with heap := h' } := J1.kept (t' := sA.toks) hKp
      exact ⟨sA.heap.objs.size + 1, [sA.heap.objs.size + 1, sA.heap.objs.size], _, _, HA, rfl, J2, turn_enumT a (sA.heap.objs.size + 1) sA.heap.objs.size hAl, ⟨⟨.none, hEn⟩, hTi, Nat.succ_ne_self _⟩, fun b hBm => J1.fpOk (hFin b hBm) (J1.hok.fresh (hFin b hBm)), q⟩
theorem walk_enumT {K : PySem.W.Frag} {a : Addr} {xv : List V} : Walk (IteT K a) xv.length (fun H => SqT K H a xv) (YPair (fun i => some (.int (i : Nat))) (fun i => xv[i]?)) := by
  refine ⟨fun i _ hIx q => ⟨xv, xv[i], q, by simp [hIx]⟩, fun _ q => ⟨xv, q, Nat.le_refl _⟩, fun i H v H' _ q y => ?_⟩
  obtain ⟨T0, x, h1, h2, h3, h4⟩ := y
  exact ⟨T0, .int (i : Nat), x, h1, h2, h3, rfl, h4 xv q⟩
theorem walk_zipT {K : PySem.W.Frag} {a b : Addr} {xv yv : List V} {n : Nat} (hn : n = min xv.length yv.length) : Walk (RZ.ItzT K a b) n (fun H => SqT K H a xv ∧ SqT K H b yv) (YPair (fun i => xv[i]?) (fun i => yv[i]?)) := by
  subst hn
  refine ⟨fun i _ hIx q => ?_, fun _ q => ⟨xv, yv, q.1, q.2, by omega⟩, fun i H v H' _ q y => ?_⟩
  · have h1 : i < xv.length := by omega
    have h2 : i < yv.length := by omega
    exact ⟨xv, yv, xv[i], yv[i], q.1, q.2, by simp [h1], by simp [h2]⟩
  · obtain ⟨T0, x, zq, h1, h2, h3, h4, h5⟩ := y
    exact ⟨T0, x, zq, h1, h2, h3, h4 xv q.1, h5 yv q.2⟩
end Gm
namespace Gm
open PySem PySem.Spec PyProof.Rows L2
section
variable {X : Cx} {C f : Addr} {fd : FuncData} {ps : List Str} {CX : CXT} {k : Nat} {sp : Sp} {E : XK}
/-- an instance as the library's words want it -/
theorem inst_of {pn : List (Addr × Obj)} {σ : L2.St} {H : Hp} {s : Shared} {a dx : Addr} {fs : List (Str × V)} (I : Inv X pn σ H s) (ha : H a = some (.ins C dx fs)) : ∃ od, PySem.W.InstAt s.heap a (PySem.W.instObj C dx) C (some od) := by
  obtain ⟨mAt, J, _⟩ := ins_get I.hok ha
  obtain ⟨od, J, _⟩ := J.look
  exact ⟨od, J⟩
/-- a op b, both instances of one own class that defines op -/
def rOwnBin (C : Addr) (sp : Sp) (E : XK) : R2 := fun x y H Q => ∃ a b dx dy fs gs, x = .ref a ∧ y = .ref b ∧ H a = some (.ins C dx fs) ∧ H b = some (.ins C dy gs) ∧ sp [x, y] H Q E
theorem op_ownBin {op : Operator} (hc : PySem.W.selfFirst X.K C = true) (hs : PySem.W.findIn X.K (.ref C) (PySem.dunder op.info.2) = some (some (.ref f))) (hf : PySem.W.isFn X.K (.ref f) = true)
    (F : FnOk X.prog X.w X.K X.mg X.base CX k f fd ps sp) (hr : Room k X.A) (hb : Binds X.K fd ps []) (hx : Passes CX X E) : OpR X (binaryOp op) (rOwnBin C sp E) := by
  intro pn s σ H x y v u Q I rx ry h
  obtain ⟨a, b, dx, dy, fs, gs, rfl, rfl, ha, hb', q⟩ := h
  cases rx
  cases ry
  obtain ⟨od, J⟩ := inst_of I ha
  obtain ⟨od', J'⟩ := inst_of I hb'
  obtain ⟨m, hF⟩ := I.fr
  refine PySem.W.binop_K hF I.ok.mod.kin J J'.type hc hs hf ?_
  refine wpAny_mono (run_fn (us := [.ref a, .ref b]) (vs := [.ref a, .ref b]) F hr hb .nil hx I (.cons rfl (.cons rfl .nil)) q) (fun w s' z => ?_) fun _ _ x => x
  obtain ⟨zR, HR, IR, relZ, postZ⟩ := z
  exact SlX.cmpback relZ ⟨zR, HR, IR, relZ, postZ⟩
/-- a op b compared by an own def -/
def rOwnCmp (K : PySem.W.Frag) (C : Addr) (sp : Sp) (E : XK) : R2 := fun x y H Q => ∃ a b dx dy fs gs, x = .ref a ∧ y = .ref b ∧ H a = some (.ins C dx fs) ∧ H b = some (.ins C dy gs) ∧ sp [x, y] H Q E
theorem op_ownCmp {op : CmpOp} (hop : ∀ a b, compareOp op a b = richCompare op a b) (hs : PySem.W.findIn X.K (.ref C) (cmpInfo op).2.1 = some (some (.ref f))) (hf : PySem.W.isFn X.K (.ref f) = true)
    (F : FnOk X.prog X.w X.K X.mg X.base CX k f fd ps sp) (hr : Room k X.A) (hb : Binds X.K fd ps []) (hx : Passes CX X E) : OpR X (compareOp op) (rOwnCmp X.K C sp E) := by
  intro pn s σ H x y v u Q I rx ry h
  obtain ⟨a, b, dx, dy, fs, gs, rfl, rfl, ha, hb', q⟩ := h
  cases rx
  cases ry
  obtain ⟨od, J⟩ := inst_of I ha
  obtain ⟨od', J'⟩ := inst_of I hb'
  obtain ⟨m, hF⟩ := I.fr
  rw [hop]
  refine PySem.W.cmp_K (op := op) (tb := .ref C) hr.units0 hF I.ok.mod.kin J J'.type (by simp [PySem.W.notFirst]) hs hf ?_
  refine wpAny_mono (run_fn (us := [.ref a, .ref b]) (vs := [.ref a, .ref b]) F hr hb .nil hx I (.cons rfl (.cons rfl .nil)) q) (fun w s' z => ?_) fun _ _ x => x
  obtain ⟨zR, HR, IR, relZ, postZ⟩ := z
  exact SlX.cmpback relZ ⟨zR, HR, IR, relZ, postZ⟩
/-- -a of an own class -/
def rOwnUn (C : Addr) (sp : Sp) (E : XK) : V → Hp → VK → Prop := fun x H Q => ∃ a dx fs, x = .ref a ∧ H a = some (.ins C dx fs) ∧ sp [x] H Q E
theorem un_ownNeg (hs : PySem.W.findIn X.K (.ref C) "__neg__" = some (some (.ref f))) (hf : PySem.W.isFn X.K (.ref f) = true)
    (F : FnOk X.prog X.w X.K X.mg X.base CX k f fd ps sp) (hr : Room k X.A) (hb : Binds X.K fd ps []) (hx : Passes CX X E) : UnR X (unaryOp .USub) (rOwnUn C sp E) := by
  intro pn s σ H x v Q I rx h
  obtain ⟨a, dx, fs, rfl, ha, q⟩ := h
  cases rx
  obtain ⟨od, J⟩ := inst_of I ha
  obtain ⟨m, hF⟩ := I.fr
  exact PySem.W.ksp_neg hF I.ok.mod.kin J hs hf (run_fn (us := [.ref a]) (vs := [.ref a]) F hr hb .nil hx I (.cons rfl .nil) q)
/-- len(a) of an own class -/
def rOwnLen (C : Addr) (sp : Sp) (E : XK) : List V → Hp → VK → Prop := fun xs H Q => ∃ a dx fs, xs = [.ref a] ∧ H a = some (.ins C dx fs) ∧ sp [.ref a] H (fun v HR => ∃ n : Nat, v = .int n ∧ n < 2 ^ 62 ∧ Q (.int n) HR) E
theorem call_ownLen (hs : PySem.W.findIn X.K (.ref C) "__len__" = some (some (.ref f))) (hf : PySem.W.isFn X.K (.ref f) = true)
    (F : FnOk X.prog X.w X.K X.mg X.base CX k f fd ps sp) (hr : Room (k + 1) X.A) (hb : Binds X.K fd ps []) (hx : ∀ (H : Hp) (s : Shared) (e : Value) (s' : Shared), CX X.stack H s E e s' → False) : CallR X (.builtin "len") (rOwnLen C sp E) := by
  intro pn s σ H vs argv Q I r h
  obtain ⟨a, dx, fs, rfl, ha, q⟩ := h
  cases r with
  | cons r rRest =>
    cases rRest
    cases r
    obtain ⟨od, J⟩ := inst_of I ha
    obtain ⟨m, hF⟩ := I.fr
    refine PySem.W.len_K hF I.ok.mod.kin J hs hf ?_
    have hl := F.len _ _ _ _ q
    have relV : Vals [V.ref a] [Value.ref a] := .cons rfl .nil
    refine wpAny_call (codeAny_mono (F.run X.A.in1 X.stack s H ⟨[.ref a], []⟩ [.ref a] [.ref a] _ E hr.in1 I.env0.in1 (by
      have := hb s [.ref a] I.kIn (by simpa using hl)
      simpa using this) relV q) fun r s' hq => ?_)
    cases r with
    | error e => exact (hx _ _ _ _ hq).elim
    | ok fl =>
      cases fl with
      | ret w =>
        obtain ⟨z, HR, IR, relZ, n, ez, hn, ex⟩ := I.after hq
        subst ez
        obtain ⟨t, rfl⟩ := relZ
        exact ⟨⟨by omega, by omega⟩, .int n, HR, IR.tok _, ⟨_, rfl⟩, ex⟩
      | next => exact False.elim hq
      | brk => exact False.elim hq
      | cont => exact False.elim hq
end
/-! ### a method that may raise, what is raised wished for at the caller's slots -/
section
variable {X : Cx} {C f : Addr} {fd : FuncData} {ps : List Str} {CX : CXT} {k : Nat} {sp : Sp} {E : L2.St → XK} {o e : Expr} {es : List Expr} {m : Str} {ta : TE} {t : TA} {pos apos : Pos}
def tMethS (C : Addr) (m : Str) (sp : Sp) (E : L2.St → XK) (ta : TE) (t : TA) : TE := fun σ H Q => ta σ H fun x H1 => ∃ a dx fs, x = .ref a ∧ H1 a = some (.ins C dx fs) ∧ fs.lookup m = none ∧ t σ H1 fun vs H2 => sp (x :: vs) H2 Q (E σ)
theorem pe_methS {pl : Sem Bool} (he : PE X o ta) (c : Cls X.K C) (hm : Meth X.K C m f) (F : FnOk X.prog X.w X.K X.mg X.base CX k f fd ps sp) (hr : Room k X.A) (hb : Binds X.K fd ps []) (hx : ∀ σ, PassesAt CX X σ (E σ)) (ha : PA X (e :: es) t)
    (hStar : starEach (e :: es) X.env = (false, eval e X.env) :: starEach es X.env := by rfl) (hPlain : (backTo pos (starEach es X.env)).any (·.1) = false := by rfl)
    (hEval : eval (.Call (.Attribute o m apos) (e :: es) [] pos) X.env = (do
      let ov ← eval o X.env
      standAt apos.atName
      let (f, first) ← holding [ov] (getMethod ov m pl)
      callWith pos f first (backTo pos (starEach (e :: es) X.env)) (backToKw pos (keywordEach [] X.env))) := by rfl) :
    PE X (.Call (.Attribute o m apos) (e :: es) [] pos) (tMethS C m sp E ta t) := by
  refine ⟨fun pn s σ H Q I h => ?_⟩
  refine PySem.W.methodCall_KW (pl := pl) (thn (he.run pn s σ H _ I h) fun u s1 ⟨x, H1, J1, rx, a, dx, fs, ex, ea, l, q⟩ => ?_) hEval
  subst ex
  obtain rfl : u = Value.ref a := rx
  refine getmeth_ok J1 ea c hm l ?_
  refine PySem.W.callWith_K (first := [.ref a]) (h₀ := X.base) I.ok.mod.kin hm.kp (thn (ha.run pos pn s1 σ H1 _ J1 q) fun argv s2 ⟨vs, H2, J2, r, q2⟩ => ⟨J2.kIn, ?_⟩) hStar hPlain
  exact run_fnS (us := .ref a :: argv) (vs := .ref a :: vs) F hr hb (hx σ) J2 (.cons rfl r) q2
theorem pe_methS0 {pl : Sem Bool} (he : PE X o ta) (c : Cls X.K C) (hm : Meth X.K C m f) (F : FnOk X.prog X.w X.K X.mg X.base CX k f fd ps sp) (hr : Room k X.A) (hb : Binds X.K fd ps []) (hx : ∀ σ, PassesAt CX X σ (E σ))
    (hEval : eval (.Call (.Attribute o m apos) [] [] pos) X.env = (do
      let ov ← eval o X.env
      standAt apos.atName
      let (f, first) ← holding [ov] (getMethod ov m pl)
      callWith pos f first (backTo pos (starEach [] X.env)) (backToKw pos (keywordEach [] X.env))) := by rfl) :
    PE X (.Call (.Attribute o m apos) [] [] pos) (tMethS C m sp E ta tNil) := by
  refine ⟨fun pn s σ H Q I h => ?_⟩
  refine PySem.W.methodCall_KW (pl := pl) (thn (he.run pn s σ H _ I h) fun u s1 ⟨x, H1, J1, rx, a, dx, fs, ex, ea, l, q⟩ => ?_) hEval
  subst ex
  obtain rfl : u = Value.ref a := rx
  refine getmeth_ok J1 ea c hm l ?_
  exact PySem.W.callWith_K0 (first := [.ref a]) J1.kIn hm.kp (run_fnS (us := [.ref a]) (vs := [.ref a]) F hr hb (hx σ) J1 (.cons rfl .nil) q)
end
end Gm
/-! Data in the heap: rows of ints, rows of rows, grids; comprehensions over a walk, their new list told at once. -/
namespace Gm
open PySem PySem.Spec PyProof.Rows L2
abbrev Frag := PySem.W.Frag
/-! ### heaps -/
theorem same_upd {H : Hp} {p : Addr} {o : HO} (h : H p = none) : Same H (upd H p o) := fun b x e => by
  rw [upd_ne (ne_of_none e h)]
  exact e
theorem Same.seqT {K : Frag} {H H' : Hp} {a : Addr} {xs : List V} (e : Same H H') (h : SqT K H a xs) : SqT K H' a xs := by
  rcases h with (h | ⟨o, h⟩) | h
  · exact .inl (.inl (e _ _ h))
  · exact .inl (.inr ⟨o, e _ _ h⟩)
  · exact .inr h
/-- all but D is as it was -/
def Off (D : Addr) (H H' : Hp) : Prop := ∀ b o, b ≠ D → H b = some o → H' b = some o
theorem Same.off {D : Addr} {H H' : Hp} (e : Same H H') : Off D H H' := fun b o _ h => e b o h
theorem Off.upd {D : Addr} {H : Hp} {o : HO} : Off D H (upd H D o) := fun b u n e => by rw [upd_ne n]; exact e
theorem Off.trans {D : Addr} {H H1 H2 : Hp} (a : Off D H H1) (b : Off D H1 H2) : Off D H H2 := fun c o n h => b c o n (a c o n h)
theorem Off.same {D : Addr} {H H1 H2 : Hp} (hD : H D = none) (a : Same H H1) (b : Off D H1 H2) : Same H H2 := fun c o h => b c o (ne_of_none h hD) (a c o h)
/-- a tuple stands through what happens at a list -/
theorem sqT_off {K : Frag} {H H' : Hp} {a D : Addr} {acc xs : List V} (hD : H D = some (.lst acc)) (e : Off D H H') (h : SqT K H a xs) : SqT K H' a xs := by
  rcases h with (h | ⟨o, h⟩) | h
  · exact .inl (.inl (e _ _ (ne_of h hD (by intro z; cases z)) h))
  · exact .inl (.inr ⟨o, e _ _ (ne_of h hD (by intro z; cases z)) h⟩)
  · exact .inr h
/-! ### a list or tuple -/
def Seq (K : Frag) (H : Hp) (a : Addr) (xs : List V) : Prop := SqL K H a xs ∨ SqT K H a xs
theorem Seq.same {K : Frag} {H H' : Hp} {a : Addr} {xs : List V} (e : Same H H') (h : Seq K H a xs) : Seq K H' a xs := h.elim (fun h => .inl (Same.seq e h)) fun h => .inr (Same.seqT e h)
/-! ### rows of ints, rows of rows -/
/-- a tuple of ints -/
def TRow (K : Frag) (H : Hp) (v : V) (ns : List Int) : Prop := ∃ a, v = .ref a ∧ SqT K H a (ns.map V.int)
/-- a list or tuple of ints -/
def IRow (K : Frag) (H : Hp) (v : V) (ns : List Int) : Prop := ∃ a, v = .ref a ∧ Seq K H a (ns.map V.int)
/-- a tuple of tuples of ints -/
def TRows (K : Frag) (H : Hp) (v : V) (m : List (List Int)) : Prop := ∃ a vs, v = .ref a ∧ SqT K H a vs ∧ Paired (TRow K H) vs m
/-- lists or tuples of such -/
def IRows (K : Frag) (H : Hp) (v : V) (m : List (List Int)) : Prop := ∃ a vs, v = .ref a ∧ Seq K H a vs ∧ Paired (IRow K H) vs m
section
variable {K : Frag} {H H' : Hp} {v : V} {ns : List Int} {m : List (List Int)} {D : Addr} {acc : List V}
theorem TRow.same (e : Same H H') (h : TRow K H v ns) : TRow K H' v ns := let ⟨a, x, s⟩ := h; ⟨a, x, Same.seqT e s⟩
theorem TRow.off (hD : H D = some (.lst acc)) (e : Off D H H') (h : TRow K H v ns) : TRow K H' v ns := let ⟨a, x, s⟩ := h; ⟨a, x, sqT_off hD e s⟩
theorem IRow.same (e : Same H H') (h : IRow K H v ns) : IRow K H' v ns := let ⟨a, x, s⟩ := h; ⟨a, x, s.same e⟩
theorem TRow.row (h : TRow K H v ns) : IRow K H v ns := let ⟨a, x, s⟩ := h; ⟨a, x, .inr s⟩
theorem TRows.same (e : Same H H') (h : TRows K H v m) : TRows K H' v m := let ⟨a, vs, x, s, p⟩ := h; ⟨a, vs, x, Same.seqT e s, L2.Paired.mapP p fun _ _ => TRow.same e⟩
theorem TRows.off (hD : H D = some (.lst acc)) (e : Off D H H') (h : TRows K H v m) : TRows K H' v m := let ⟨a, vs, x, s, p⟩ := h; ⟨a, vs, x, sqT_off hD e s, L2.Paired.mapP p fun _ _ => TRow.off hD e⟩
theorem IRows.same (e : Same H H') (h : IRows K H v m) : IRows K H' v m := let ⟨a, vs, x, s, p⟩ := h; ⟨a, vs, x, s.same e, L2.Paired.mapP p fun _ _ => IRow.same e⟩
theorem TRows.rows (h : TRows K H v m) : IRows K H v m := let ⟨a, vs, x, s, p⟩ := h; ⟨a, vs, x, .inr s, L2.Paired.mapP p fun _ _ => TRow.row⟩
end
theorem Paired.getL {α β : Type} {F : α → β → Prop} : ∀ {l₁ : List α} {l₂ : List β} {i : Nat} {b : β}, Paired F l₁ l₂ → l₂[i]? = some b → ∃ a, l₁[i]? = some a ∧ F a b
  | _, _, _, _, .nil, e => by simp at e
  | _, _, 0, _, .cons r _, e => by simp at e; subst e; exact ⟨_, rfl, r⟩
  | _, _, i + 1, b, .cons _ t, e => by
    obtain ⟨u, h1, h2⟩ := Paired.getL (i := i) (b := b) t (by simpa using e)
    exact ⟨u, by simpa using h1, h2⟩
theorem Paired.getR {α β : Type} {F : α → β → Prop} : ∀ {l₁ : List α} {l₂ : List β} {i : Nat} {a : α}, Paired F l₁ l₂ → l₁[i]? = some a → ∃ b, l₂[i]? = some b ∧ F a b
  | _, _, _, _, .nil, e => by simp at e
  | _, _, 0, _, .cons r _, e => by simp at e; subst e; exact ⟨_, rfl, r⟩
  | _, _, i + 1, a, .cons _ t, e => by
    obtain ⟨u, h1, h2⟩ := Paired.getR (i := i) (a := a) t (by simpa using e)
    exact ⟨u, by simpa using h1, h2⟩
theorem Paired.mapR {α β γ : Type} {F : α → β → Prop} {G : α → γ → Prop} (f : β → γ) (h : ∀ a b, F a b → G a (f b)) : ∀ {l₁ : List α} {l₂ : List β}, Paired F l₁ l₂ → Paired G l₁ (l₂.map f)
  | _, _, .nil => .nil
  | _, _, .cons r t => .cons (h _ _ r) (Paired.mapR f h t)
theorem Paired.swap {α β : Type} {F : α → β → Prop} : ∀ {l₁ : List α} {l₂ : List β}, Paired F l₁ l₂ → Paired (fun b a => F a b) l₂ l₁
  | _, _, .nil => .nil
  | _, _, .cons r t => .cons r (Paired.swap t)
/-- ints alone -/
theorem paired_ints : ∀ {vs : List V} {ns : List Int}, Paired (fun v n => v = V.int n) vs ns → vs = ns.map V.int
  | _, _, .nil => rfl
  | _, _, .cons r t => by rw [List.map_cons, ← r, ← paired_ints t]
theorem paired_bls : ∀ {vs : List V} {ns : List Bool}, Paired (fun v n => v = V.bl n) vs ns → vs = ns.map V.bl
  | _, _, .nil => rfl
  | _, _, .cons r t => by rw [List.map_cons, ← r, ← paired_bls t]
theorem ints_get {ns : List Int} {i : Nat} {v : V} (h : (ns.map V.int)[i]? = some v) : ∃ n, ns[i]? = some n ∧ v = .int n := by
  rw [List.getElem?_map] at h
  cases e : ns[i]? with
  | none => rw [e] at h; cases h
  | some n => rw [e] at h; exact ⟨n, rfl, (Option.some.inj h).symm⟩
theorem ints_at {ns : List Int} {i : Nat} {n : Int} (h : ns[i]? = some n) : (ns.map V.int)[i]? = some (.int n) := by
  rw [List.getElem?_map, h]
  rfl
/-! ### walks of a list or tuple: one reading for both -/
/-- R of every walk of the n items told by Y, while a's content stands -/
def Walked (n : Nat) (Y : Nat → Hp → V → Hp → Prop) (as : List Addr) (R : It → Hp → Prop) (H1 : Hp) : Prop := ∀ (J : It) (G : Hp → Prop), Walk J n G Y → (∀ H, (∀ a ∈ as, ∀ o, H1 a = some o → H a = some o) → G H) → R J H1
theorem sqL_at {K : Frag} {H H' : Hp} {a : Addr} {xs : List V} (h : SqL K H a xs) (e : ∀ o, H a = some o → H' a = some o) : SqL K H' a xs := by
  rcases h with (h | ⟨o, h⟩) | h
  · exact .inl (.inl (e _ h))
  · exact .inl (.inr ⟨o, e _ h⟩)
  · exact .inr h
theorem sqT_at {K : Frag} {H H' : Hp} {a : Addr} {xs : List V} (h : SqT K H a xs) (e : ∀ o, H a = some o → H' a = some o) : SqT K H' a xs := by
  rcases h with (h | ⟨o, h⟩) | h
  · exact .inl (.inl (e _ h))
  · exact .inl (.inr ⟨o, e _ h⟩)
  · exact .inr h
section
variable {X : Cx} {tg e e2 : Expr} {te : TE} {ta : TA} {p pos tpos : Pos} {elts : List Expr} {kk : Nat}
def iSeq (K : Frag) (tl : TE) : TI := fun σ H R => tl σ H fun x H1 => ∃ a xs, x = .ref a ∧ Seq K H1 a xs ∧ Walked xs.length (YAt xs) [a] R H1
theorem pi_seq (hl : PE X e te) : PI X tg e (iSeq X.K te) := by
  refine ⟨fun pn s σ H R I h => ?_⟩
  refine thn (hl.run pn s σ H _ I h) fun v s1 ⟨x, H1, J1, rel1, post1⟩ => ?_
  obtain ⟨a, xs, e, hq, q⟩ := post1
  subst e
  cases rel1
  have fin : ∀ b ∈ [s1.heap.objs.size], FpOk X pn H1 b := fun b hb => by
    have e : b = s1.heap.objs.size := by simpa using hb
    subst e
    exact J1.fpOk (Nat.le_refl _) (J1.hok.fresh (Nat.le_refl _))
  rcases hq with hq | hq
  · obtain ⟨vals, hvals, p, hLen⟩ := J1.list hq
    refine wpAny_pyIter_list p.isList ?_
    exact ⟨s1.heap.objs.size, [s1.heap.objs.size], _, _, H1, rfl, J1.kept (t' := s1.toks) fun b o e => Heap.get?_push_of_some _ e, turn_list a _, ⟨_, Heap.get?_push_size _ rfl, rfl, rfl⟩, fin, q _ _ walk_list fun H e => sqL_at hq (e a (by simp))⟩
  · obtain ⟨vals, hvals, p, hLen⟩ := J1.tuple hq
    refine wpAny_pyIter_tuple (show s1.heap.IsTuple a vals.toArray from p) ?_
    exact ⟨s1.heap.objs.size, [s1.heap.objs.size], _, _, H1, rfl, J1.kept (t' := s1.toks) fun b o e => Heap.get?_push_of_some _ e, turn_tuple a _, ⟨_, Heap.get?_push_size _ rfl, rfl, rfl⟩, fin, q _ _ walk_tup fun H e => sqT_at hq (e a (by simp))⟩
def iEnumS (K : Frag) (ta : TA) : TI := fun σ H R => ta σ H fun vs H1 => ∃ a xs, vs = [.ref a] ∧ Seq K H1 a xs ∧ Walked xs.length (YPair (fun i => some (.int (i : Nat))) (fun i => xs[i]?)) [a] R H1
theorem pi_enumS (hg : Gl X "enumerate") (hm : X.mg "enumerate" = none) (ha : PA X [e] ta) (hs : starEach [e] X.env = [(false, eval e X.env)] := by rfl) :
    PI X (.Tuple elts kk tpos) (.Call (.Name "enumerate" p) [e] [] pos) (iEnumS X.K ta) := by
  refine ⟨fun pn s σ H R I h => ?_⟩
  refine Call_ (ld_blt I hg hm boot_enumerate (PyProof.Rows.callWith_type1 (thn (ha.run pos pn s σ H _ I h) fun us s1 ⟨vs, H1, J1, rel1, post1⟩ => ?_) hs rfl))
  obtain ⟨a, xs, ex, hq, q⟩ := post1
  subst ex
  cases rel1 with
  | cons r rr =>
    cases rr
    cases r
    have fin : ∀ b ∈ [s1.heap.objs.size + 1, s1.heap.objs.size], s1.heap.objs.size ≤ b := fun b hb => by
      have ee : b = s1.heap.objs.size + 1 ∨ b = s1.heap.objs.size := by simpa using hb
      rcases ee with z | z
      · rw [z]; exact Nat.le_add_right _ _
      · rw [z]; exact Nat.le_refl _
    rcases hq with hq | hq
    · obtain ⟨vals, hvals, p', hLen⟩ := J1.list hq
      refine call_enumerate_list p'.isList fun h' he hit hSz hk => wpAny_pyIter_enum he ?_
      have J2 : Inv X pn σ H1 { s1 with heap := h' } := J1.kept (t' := s1.toks) hk
      exact ⟨s1.heap.objs.size + 1, [s1.heap.objs.size + 1, s1.heap.objs.size], _, _, H1, rfl, J2, turn_enum a (s1.heap.objs.size + 1) s1.heap.objs.size, ⟨⟨.none, he⟩, hit, Nat.succ_ne_self _⟩, fun b hb => J1.fpOk (fin b hb) (J1.hok.fresh (fin b hb)), q _ _ walk_enum fun H e => sqL_at hq (e a (by simp))⟩
    · obtain ⟨vals, hvals, p', hLen⟩ := J1.tuple hq
      have hal : a ≠ s1.heap.objs.size := by
        obtain ⟨o, e, _⟩ := (show s1.heap.IsTuple a vals.toArray from p')
        exact Nat.ne_of_lt (Heap.lt_size e)
      refine call_enumerate_tuple (show s1.heap.IsTuple a vals.toArray from p') fun h' he hit hSz hk => wpAny_pyIter_enum he ?_
      have J2 : Inv X pn σ H1 { s1 with heap := h' } := J1.kept (t' := s1.toks) hk
      exact ⟨s1.heap.objs.size + 1, [s1.heap.objs.size + 1, s1.heap.objs.size], _, _, H1, rfl, J2, turn_enumT a (s1.heap.objs.size + 1) s1.heap.objs.size hal, ⟨⟨.none, he⟩, hit, Nat.succ_ne_self _⟩, fun b hb => J1.fpOk (fin b hb) (J1.hok.fresh (fin b hb)), q _ _ walk_enumT fun H e => sqT_at hq (e a (by simp))⟩
end
/-! ### comprehensions -/
/-- [e for x in .. if p]: the new list at D holds, for the turns with p, values in the relation Rel -/
theorem lc_gen {J : It} {n : Nat} {G : Hp → Prop} {Y : Nat → Hp → V → Hp → Prop} (w : Walk J n G Y) {g : TG} {tt : TT} {te : TE} {vs : List Nat} {σ : L2.St} {H1 : Hp} {D : Addr} {Qd : Hp → Prop}
    (hD : H1 D = none) (hn : n ≤ 1000) (hG : ∀ H, Same H1 H → G H) (p : Nat → Bool) (Rel : Nat → V → Hp → Prop)
    (mono : ∀ i v H H' acc, H D = some (.lst acc) → Off D H H' → Rel i v H → Rel i v H')
    (step : ∀ (i : Nat) (x : V) (H H' : Hp) (acc : List V) (Ko : VK) (Kn : Hp → Prop), i < n → Same H1 H → H D = some (.lst acc) → Y i H x H' → (p i = true → ∀ y H4, Same H H4 → Rel i y H4 → Ko y H4) → (p i = false → ∀ H3, Same H H3 → Kn H3) →
      g x (wipe σ vs) H' fun σ2 H2 => wipe σ2 vs = wipe σ vs ∧ tt σ2 H2 fun b H3 => if b = true then te σ2 H3 Ko else Kn H3)
    (done : ∀ H l, Same H1 H → H D = some (.lst l) → Paired (fun i v => Rel i v H) ((List.range n).filter p) l → Qd H) :
    ∃ W : Nat → Nat → Hp → Prop, (∃ m, W 0 m (upd H1 D (.lst []))) ∧ ∀ i m H, W i m H →
      (J.stop i H ∧ Qd H) ∨ (J.go i H ∧ ∃ Nx : Hp → Prop, (∀ H', Nx H' → ∃ m', m' < m ∧ W (i + 1) m' H') ∧ ∀ x H', J.yld i H x H' → g x (wipe σ vs) H' fun σ2 H2 => wipe σ2 vs = wipe σ vs ∧ tt σ2 H2 fun b H3 =>
        if b = true then te σ2 H3 fun y H4 => ∃ acc, H4 D = some (.lst acc) ∧ acc.length < sizeLine ∧ Nx (upd H4 D (.lst (acc ++ [y]))) else Nx H3) := by
  refine lc_it w (Pv := fun i H => Same H1 H ∧ ∃ l, H D = some (.lst l) ∧ Paired (fun i v => Rel i v H) ((List.range i).filter p) l) ?_ (fun i H _ h => hG H h.1) ?_ (fun H h => let ⟨s, l, e, q⟩ := h; done H l s e q)
  · exact ⟨same_upd hD, [], upd_same, .nil⟩
  · rintro i x H H' hi ⟨s, l, e, q⟩ y
    have hl : l.length ≤ i := by
      have := q.length
      have h2 : ((List.range i).filter p).length ≤ (List.range i).length := List.length_filter_le _ _
      rw [List.length_range] at h2
      omega
    refine step i x H H' l _ _ hi s e y (fun hp y H4 s4 r => ?_) fun hp H3 s3 => ?_
    · refine ⟨l, s4 _ _ e, small1000 (by omega), fun c o h => ?_, l ++ [y], upd_same, ?_⟩
      · exact Off.upd c o (ne_of_none h hD) (s4 _ _ (s _ _ h))
      · rw [List.range_succ, List.filter_append, List.filter_cons, List.filter_nil, if_pos hp]
        refine Paired.snoc (L2.Paired.mapP q fun j v r => mono j v H _ l e ?_ r) (mono i y H4 _ l (s4 _ _ e) Off.upd r)
        exact Off.trans (Same.off s4) Off.upd
    · refine ⟨fun c o h => s3 _ _ (s _ _ h), l, s3 _ _ e, ?_⟩
      rw [List.range_succ, List.filter_append, List.filter_cons, List.filter_nil, if_neg (by rw [hp]; exact Bool.false_ne_true), List.append_nil]
      exact L2.Paired.mapP q fun j v r => mono j v H _ l e (Same.off s3) r
/-- without a test -/
theorem lc_all {J : It} {n : Nat} {G : Hp → Prop} {Y : Nat → Hp → V → Hp → Prop} (w : Walk J n G Y) {g : TG} {te : TE} {vs : List Nat} {σ : L2.St} {H1 : Hp} {D : Addr} {Qd : Hp → Prop}
    (hD : H1 D = none) (hn : n ≤ 1000) (hG : ∀ H, Same H1 H → G H) (Rel : Nat → V → Hp → Prop)
    (mono : ∀ i v H H' acc, H D = some (.lst acc) → Off D H H' → Rel i v H → Rel i v H')
    (step : ∀ (i : Nat) (x : V) (H H' : Hp) (acc : List V) (Ko : VK), i < n → Same H1 H → H D = some (.lst acc) → Y i H x H' → (∀ y H4, Same H H4 → Rel i y H4 → Ko y H4) →
      g x (wipe σ vs) H' fun σ2 H2 => wipe σ2 vs = wipe σ vs ∧ te σ2 H2 Ko)
    (gm : ∀ x σ1 H (Q Q' : L2.St → Hp → Prop), (∀ σ2 H2, Q σ2 H2 → Q' σ2 H2) → g x σ1 H Q → g x σ1 H Q')
    (done : ∀ H l, Same H1 H → H D = some (.lst l) → Paired (fun i v => Rel i v H) (List.range n) l → Qd H) :
    ∃ W : Nat → Nat → Hp → Prop, (∃ m, W 0 m (upd H1 D (.lst []))) ∧ ∀ i m H, W i m H →
      (J.stop i H ∧ Qd H) ∨ (J.go i H ∧ ∃ Nx : Hp → Prop, (∀ H', Nx H' → ∃ m', m' < m ∧ W (i + 1) m' H') ∧ ∀ x H', J.yld i H x H' → g x (wipe σ vs) H' fun σ2 H2 => wipe σ2 vs = wipe σ vs ∧ tYes σ2 H2 fun b H3 =>
        if b = true then te σ2 H3 fun y H4 => ∃ acc, H4 D = some (.lst acc) ∧ acc.length < sizeLine ∧ Nx (upd H4 D (.lst (acc ++ [y]))) else Nx H3) := by
  refine lc_gen w hD hn hG (fun _ => true) Rel mono (fun i x H H' acc Ko Kn hi s e y k _ => ?_) fun H l s e q => done H l s e (by rw [List.filter_eq_self.mpr (fun _ _ => rfl)] at q; exact q)
  refine gm _ _ _ _ _ (fun σ2 H2 q => ⟨q.1, ?_⟩) (step i x H H' acc Ko hi s e y (k rfl))
  exact (show if true = true then te σ2 H2 Ko else Kn H2 from iteT q.2)
theorem gm_name {j : Nat} : ∀ (x : V) (σ1 : L2.St) (H : Hp) (Q Q' : L2.St → Hp → Prop), (∀ σ2 H2, Q σ2 H2 → Q' σ2 H2) → gName j x σ1 H Q → gName j x σ1 H Q' := fun _ _ _ _ _ h q => h _ _ q
theorem gm_pair {K : Frag} {i j : Nat} : ∀ (x : V) (σ1 : L2.St) (H : Hp) (Q Q' : L2.St → Hp → Prop), (∀ σ2 H2, Q σ2 H2 → Q' σ2 H2) → gTup K 2 (gCons (gName i) (gCons (gName j) gNil)) x σ1 H Q → gTup K 2 (gCons (gName i) (gCons (gName j) gNil)) x σ1 H Q' := by
  rintro x σ1 H Q Q' h ⟨a, xs, e, s, l, v, r, e1, v', r', e2, e3, q⟩
  exact ⟨a, xs, e, s, l, v, r, e1, v', r', e2, e3, h _ _ q⟩
/-- a pair unpacked into two slots -/
theorem g_pair {K : Frag} {i j : Nat} {T : Addr} {x y : V} {σ : L2.St} {H : Hp} {Q : L2.St → Hp → Prop} (hn : H T = none) (q : Q ((σ.set i (some x)).set j (some y)) (upd H T (.tup [x, y]))) : gTup K 2 (gCons (gName i) (gCons (gName j) gNil)) (.ref T) σ (upd H T (.tup [x, y])) Q :=
  ⟨T, [x, y], rfl, .inl (.inl upd_same), rfl, x, [y], rfl, y, [], rfl, rfl, q⟩
/-! ### list or tuple: slices -/
section
variable {X : Cx}
def rSlS (K : Frag) : V → Option Int → Option Int → Hp → VK → Prop := fun x lo hi H Q => rSlL K x lo hi H Q ∨ rSlT K x lo hi H Q
theorem sl_seq : SlR X (rSlS X.K) := sl_list.or sl_tup
end
end Gm
namespace Gm
open PySem PySem.Spec PyProof.Rows L2
theorem rIx_seq {K : Frag} {H : Hp} {a : Addr} {xs : List V} {i : Int} {v : V} {Q : VK} (hs : Seq K H a xs) (e : atI xs i = some v) (q : Q v H) : rIx K (.ref a) (.int i) H Q :=
  hs.elim (fun h => .inl ⟨a, xs, i, v, rfl, rfl, h, e, q⟩) fun h => .inr (.inl ⟨a, xs, i, v, rfl, rfl, h, e, q⟩)
end Gm
namespace Gm
open PySem PySem.Spec PyProof.Rows L2
/-! ### the layer's rules with the written part named (for a comprehension's block) -/
section
variable {X : Cx}
theorem ixS (K : Frag) (hK : X.K = K) : IxR X (rIx K) := by subst hK; exact ix_seq
theorem ixT (K : Frag) (hK : X.K = K) : IxR X (rIxT K) := by subst hK; exact ix_tup
theorem ixL (K : Frag) (hK : X.K = K) : IxR X (rIxL K) := by subst hK; exact ix_list
def rLen (K : Frag) : List V → Hp → VK → Prop := fun xs H Q => ∃ p ys, xs = [.ref p] ∧ Seq K H p ys ∧ Q (.int ys.length) H
theorem lenS (K : Frag) (hK : X.K = K) : CallR X (.builtin "len") (rLen K) := by subst hK; exact call_len_seq
theorem sumK (K : Frag) (hK : X.K = K) (hc : X.calm = true) : CallR X (.builtin "sum") (rSum K) := by subst hK; exact cr_sum hc
theorem allK (K : Frag) (hK : X.K = K) (hc : X.calm = true) : CallR X (.builtin "all") (rAll K) := by subst hK; exact cr_all hc
theorem isiK (K : Frag) (hK : X.K = K) : CallR X (.builtin "isinstance") (rIsi K) := by subst hK; exact call_isi
theorem isiTK (K : Frag) (hK : X.K = K) : CallR X (.builtin "isinstance") (rIsiT K) := by subst hK; exact call_isiT
def rTupleOf (K : Frag) : List V → Hp → VK → Prop := fun xs H Q => ∃ p ys, xs = [.ref p] ∧ ((SqL K H p ys ∧ ∀ l, H l = none → Q (.ref l) (upd H l (.tup ys))) ∨ (SqT K H p ys ∧ Q (.ref p) H))
theorem tupK (K : Frag) (hK : X.K = K) : CallR X (.type "tuple") (rTupleOf K) := by subst hK; exact call_tuple_of
def rListOf (K : Frag) : List V → Hp → VK → Prop := fun xs H Q => ∃ p ys, xs = [.ref p] ∧ Seq K H p ys ∧ ∀ l, H l = none → Q (.ref l) (upd H l (.lst ys))
theorem listK (K : Frag) (hK : X.K = K) : CallR X (.type "list") (rListOf K) := by subst hK; exact call_list_of
theorem catK (K : Frag) (hK : X.K = K) : OpR X (binaryOp .Add) (rCatA K) := by subst hK; exact op_catA
theorem slTK (K : Frag) (hK : X.K = K) : SlR X (rSlA K) := by subst hK; exact sl_tupA
theorem slLK (K : Frag) (hK : X.K = K) : SlR X (rSlL K) := by subst hK; exact sl_list
theorem slSK (K : Frag) (hK : X.K = K) : SlR X (rSlS K) := by subst hK; exact sl_seq
theorem eqDK (K : Frag) (hK : X.K = K) {k : Nat} (hr : Room k X.A) : OpR X (compareOp .Eq) (rEqD K) := by subst hK; exact op_eqD hr.units
theorem neDK (K : Frag) (hK : X.K = K) {k : Nat} (hr : Room k X.A) : OpR X (compareOp .NotEq) (rNeD K) := by subst hK; exact op_neD hr.units
variable {e e2 tg : Expr} {te ta : TE} {f : Str} {p pos tpos : Pos} {elts : List Expr} {kk : Nat} {tas : TA}
theorem fldK (K : Frag) (hK : X.K = K) (he : PE X e ta) (hb : attributeBase e f X.env (eval e X.env) = eval e X.env) : PE X (.Attribute e f pos) (tFld K ta f) := by subst hK; exact pe_fld he hb
theorem piS (K : Frag) (hK : X.K = K) (he : PE X e te) : PI X tg e (iSeq K te) := by subst hK; exact pi_seq he
/-- a tuple alone -/
theorem piEnum (K : Frag) (hK : X.K = K) (hg : Gl X "enumerate") (hm : X.mg "enumerate" = none) (ha : PA X [e] tas) (hs : starEach [e] X.env = [(false, eval e X.env)] := by rfl) :
    PI X (.Tuple elts kk tpos) (.Call (.Name "enumerate" p) [e] [] pos) (iEnumS K tas) := by subst hK; exact pi_enumS hg hm ha hs
def iZipT (K : Frag) (ta : TA) : TI := fun σ H R => ta σ H fun vs H1 => ∃ a b xs ys, vs = [.ref a, .ref b] ∧ SqT K H1 a xs ∧ SqT K H1 b ys ∧ R (RZ.ItzT K a b) H1
theorem piZipT (K : Frag) (hK : X.K = K) (hg : Gl X "zip") (hm : X.mg "zip" = none) (ha : PA X [e, e2] tas)
    (mono : ∀ σ H (Q Q' : List V → Hp → Prop), (∀ vs H, Q vs H → Q' vs H) → tas σ H Q → tas σ H Q')
    (hs : starEach [e, e2] X.env = (false, eval e X.env) :: starEach [e2] X.env := by rfl) (hpl : (backTo pos (starEach [e2] X.env)).any (·.1) = false := by rfl) :
    PI X (.Tuple elts kk tpos) (.Call (.Name "zip" p) [e, e2] [] pos) (iZipT K tas) := by
  subst hK
  refine ⟨fun pn s σ H R I h => (RZ.pi_zipA hg hm ha hs hpl).run pn s σ H R I (mono σ H _ _ (fun vs H1 q => ?_) h)⟩
  obtain ⟨a, b, xs, ys, e, h1, h2, q⟩ := q
  exact ⟨a, b, xs, ys, e, .inr ⟨h1, h2, q⟩⟩
end
end Gm
namespace Gm
open PySem PySem.Spec PyProof.Rows L2
theorem paired_true : ∀ {is : List Nat} {l : List V}, Paired (fun (_ : Nat) v => v = V.bl true) is l → l = (List.replicate l.length true).map V.bl
  | _, _, .nil => rfl
  | _, _, .cons r t => by
    rw [List.length_cons, List.replicate_succ, List.map_cons, ← r, ← paired_true t]
theorem all_true (n : Nat) : (List.replicate n true).all id = true := by
  induction n with
  | zero => rfl
  | succ n ih => rw [List.replicate_succ, List.all_cons, ih] <;> rfl
/-- values in relation with the items of a list, by place -/
theorem paired_at {α : Type} {F : V → α → Prop} {m : List α} : ∀ {n : Nat} {l : List V}, n = m.length → Paired (fun (i : Nat) v => ∃ x, m[i]? = some x ∧ F v x) (List.range n) l → Paired F l m := by
  intro n l hn h
  subst hn
  have key : ∀ (is : List Nat) (l : List V) (xs : List α), Paired (fun (i : Nat) v => ∃ x, m[i]? = some x ∧ F v x) is l → is.map (fun i => m[i]?) = xs.map some → Paired F l xs := by
    intro is l xs h
    induction h generalizing xs with
    | nil =>
      intro e
      cases xs with
      | nil => exact .nil
      | cons a b => cases e
    | cons r t ih =>
      intro e
      cases xs with
      | nil => cases e
      | cons a b =>
        rw [List.map_cons, List.map_cons] at e
        obtain ⟨x, ex, fx⟩ := r
        have e1 := (List.cons.inj e).1
        have e2 := (List.cons.inj e).2
        rw [ex] at e1
        cases e1
        exact .cons fx (ih b e2)
  refine key _ l m h ?_
  apply List.ext_getElem?
  intro i
  rw [List.getElem?_map, List.getElem?_map]
  by_cases hi : i < m.length
  · rw [List.getElem?_range hi, List.getElem?_eq_getElem hi]
    exact congrArg some (List.getElem?_eq_getElem hi)
  · rw [List.getElem?_eq_none (by simpa using hi), List.getElem?_eq_none (by omega)]
    rfl
end Gm
namespace Gm
open PySem PySem.Spec PyProof.Rows L2
section
variable {K : Frag} {H : Hp} {a b : Addr} {xs ys : List V} {Q : VK}
theorem cut_take (xs : List V) (j : Nat) : cutV xs none (some (j : Int)) = xs.take j := by
  unfold cutV
  rw [HT.sIx_none, HT.sIx_nat, List.drop_zero, Nat.sub_zero]
  by_cases h : j ≤ xs.length
  · rw [Nat.min_eq_left h]
  · rw [Nat.min_eq_right (by omega), List.take_length, List.take_of_length_le (by omega)]
theorem cut_drop (xs : List V) (j : Nat) : cutV xs (some (j : Int)) none = xs.drop j := by
  unfold cutV
  rw [HT.sIx_none, HT.sIx_nat]
  by_cases h : j ≤ xs.length
  · rw [Nat.min_eq_left h, List.take_of_length_le (by rw [List.length_drop]; exact Nat.le_refl _)]
  · rw [Nat.min_eq_right (by omega), Nat.sub_self, List.take_zero, List.drop_of_length_le (by omega)]
theorem slA_take (h : SqT K H a xs) (j : Nat) (q : ∀ p H', Same H H' → SqT K H' p (xs.take j) → Q (.ref p) H') : rSlA K (.ref a) none (some (j : Int)) H Q := by
  refine ⟨a, xs, rfl, h, fun e => ?_, fun _ p np => ?_⟩
  · have e2 : min j xs.length = xs.length := by
      have := e.2
      rw [HT.sIx_nat] at this
      exact this
    refine q a H (Same.refl _) ?_
    rw [List.take_of_length_le (by omega)]
    exact h
  · exact q p _ (same_upd np) (.inl (.inl (by rw [upd_same, cut_take])))
theorem slA_drop (h : SqT K H a xs) (j : Nat) (q : ∀ p H', Same H H' → SqT K H' p (xs.drop j) → Q (.ref p) H') : rSlA K (.ref a) (some (j : Int)) none H Q := by
  refine ⟨a, xs, rfl, h, fun e => ?_, fun _ p np => ?_⟩
  · have e2 : min j xs.length = 0 := by
      have := e.1
      rw [HT.sIx_nat] at this
      exact this
    refine q a H (Same.refl _) ?_
    by_cases hj : j = 0
    · rw [hj]
      exact h
    · have : xs = [] := List.eq_nil_of_length_eq_zero (by omega)
      rw [this] at h ⊢
      simpa using h
  · exact q p _ (same_upd np) (.inl (.inl (by rw [upd_same, cut_drop])))
theorem catA (hx : SqT K H a xs) (hy : SqT K H b ys) (hl : xs.length + ys.length ≤ 1000) (q : ∀ p H', Same H H' → SqT K H' p (xs ++ ys) → Q (.ref p) H') : rCatA K (.ref a) (.ref b) H Q := by
  refine ⟨a, b, xs, ys, rfl, rfl, hx, hy, Nat.le_of_lt (small1000 hl), fun e => ?_, fun _ e => ?_, fun _ _ p np => ?_⟩
  · subst e
    exact q b H (Same.refl _) hy
  · subst e
    refine q a H (Same.refl _) ?_
    rw [List.append_nil]
    exact hx
  · exact q p _ (same_upd np) (.inl (.inl upd_same))
end
/-- lists of ints, apart from D: a list of such lists is a matrix -/
theorem lists_rows {K : Frag} {H : Hp} {D : Addr} {l : List V} {m : List (List Int)} {n : Nat} (hn : n = m.length) (e : H D = some (.lst l)) (h : Paired (fun (i : Nat) v => ∃ p, v = V.ref p ∧ p ≠ D ∧ H p = some (.lst ((m.getD i []).map V.int))) (List.range n) l) : IRows K H (.ref D) m := by
  refine ⟨D, l, rfl, .inl (.inl (.inl e)), paired_at (m := m) hn ?_⟩
  have key : ∀ (is : List Nat) (l : List V), (∀ i ∈ is, i < m.length) → Paired (fun (i : Nat) v => ∃ p, v = V.ref p ∧ p ≠ D ∧ H p = some (.lst ((m.getD i []).map V.int))) is l → Paired (fun (i : Nat) v => ∃ x, m[i]? = some x ∧ IRow K H v x) is l := by
    intro is l hi h
    induction h with
    | nil => exact .nil
    | cons r t ih =>
      obtain ⟨p, rfl, _, e⟩ := r
      have h1 := hi _ (List.mem_cons_self ..)
      refine .cons ⟨_, List.getElem?_eq_getElem h1, p, rfl, .inl (.inl (.inl ?_))⟩ (ih fun i h => hi i (List.mem_cons_of_mem _ h))
      rw [List.getD_eq_getElem?_getD, List.getElem?_eq_getElem h1] at e
      exact e
  exact key _ _ (fun i h => by rw [List.mem_range] at h; omega) h
theorem lists_mono {D : Addr} {f : Nat → List Int} (i : Nat) (v : V) (H H' : Hp) (acc : List V) (_ : H D = some (.lst acc)) (o : Off D H H') (h : ∃ p, v = V.ref p ∧ p ≠ D ∧ H p = some (.lst ((f i).map V.int))) : ∃ p, v = V.ref p ∧ p ≠ D ∧ H' p = some (.lst ((f i).map V.int)) :=
  let ⟨p, e, n, h⟩ := h
  ⟨p, e, n, o _ _ n h⟩
/-- ints by place -/
theorem ints_list {l : List V} {ns : List Int} {n : Nat} (hn : n = ns.length) (h : Paired (fun (i : Nat) v => ∃ x, ns[i]? = some x ∧ v = V.int x) (List.range n) l) : l = ns.map V.int := paired_ints (paired_at hn h)
end Gm
namespace Gm
open PySem PySem.Spec PyProof.Rows L2
theorem tyes_of {σ : L2.St} {H : Hp} {q : Hp → Prop} {r : Hp → Prop} (h : q H) : tYes σ H fun b H3 => if b = true then q H3 else r H3 := iteT (A := q H) (B := r H) h
/-- a comprehension whose turns may change other objects: A is kept, the values are told without the heap -/
theorem lc_val {J : It} {n : Nat} {G : Hp → Prop} {Y : Nat → Hp → V → Hp → Prop} (w : Walk J n G Y) {g : TG} {te : TE} {vs : List Nat} {σ : L2.St} {H1 : Hp} {D : Addr} {Qd : Hp → Prop}
    (hn : n ≤ 1000) (A : Hp → Prop) (A0 : A (upd H1 D (.lst []))) (hG : ∀ H, A H → G H) (Au : ∀ H acc acc', A H → H D = some (.lst acc) → A (upd H D (.lst acc'))) (Rel : Nat → V → Prop)
    (step : ∀ (i : Nat) (x : V) (H H' : Hp) (acc : List V) (Ko : VK), i < n → A H → H D = some (.lst acc) → Y i H x H' → (∀ y H4, A H4 → H4 D = some (.lst acc) → Rel i y → Ko y H4) →
      g x (wipe σ vs) H' fun σ2 H2 => wipe σ2 vs = wipe σ vs ∧ te σ2 H2 Ko)
    (gm : ∀ (x : V) (σ1 : L2.St) (H : Hp) (Q Q' : L2.St → Hp → Prop), (∀ σ2 H2, Q σ2 H2 → Q' σ2 H2) → g x σ1 H Q → g x σ1 H Q')
    (done : ∀ H l, A H → H D = some (.lst l) → Paired (fun i v => Rel i v) (List.range n) l → Qd H) :
    ∃ W : Nat → Nat → Hp → Prop, (∃ m, W 0 m (upd H1 D (.lst []))) ∧ ∀ i m H, W i m H →
      (J.stop i H ∧ Qd H) ∨ (J.go i H ∧ ∃ Nx : Hp → Prop, (∀ H', Nx H' → ∃ m', m' < m ∧ W (i + 1) m' H') ∧ ∀ x H', J.yld i H x H' → g x (wipe σ vs) H' fun σ2 H2 => wipe σ2 vs = wipe σ vs ∧ tYes σ2 H2 fun b H3 =>
        if b = true then te σ2 H3 fun y H4 => ∃ acc, H4 D = some (.lst acc) ∧ acc.length < sizeLine ∧ Nx (upd H4 D (.lst (acc ++ [y]))) else Nx H3) := by
  refine lc_it w (Pv := fun i H => A H ∧ ∃ l, H D = some (.lst l) ∧ Paired (fun i v => Rel i v) (List.range i) l) ?_ (fun i H _ h => hG H h.1) ?_ (fun H h => let ⟨s, l, e, q⟩ := h; done H l s e q)
  · exact ⟨A0, [], upd_same, .nil⟩
  · rintro i x H H' hi ⟨a, l, e, q⟩ y
    have hl : l.length = i := by
      have := q.length
      rw [List.length_range] at this
      omega
    refine gm _ _ _ _ _ (fun σ2 H2 q => ⟨q.1, tyes_of q.2⟩) (step i x H H' l _ hi a e y fun y H4 a4 e4 r => ?_)
    refine ⟨l, e4, small1000 (by omega), Au _ _ _ a4 e4, l ++ [y], upd_same, ?_⟩
    rw [List.range_succ]
    exact Paired.snoc q r
theorem ixN_nat {n k : Nat} (h : k < n) : ixN n (k : Int) = some k := by
  unfold ixN
  first
    | simp [h]
    | (split <;> simp_all <;> omega)
    | omega
end Gm
namespace Gm
open PySem PySem.Spec PyProof.Rows L2
theorem vals_small {is : List Nat} {l : List V} {M : Nat} (h : Paired (fun (_ : Nat) v => ∃ z : Int, v = V.int z ∧ z.natAbs ≤ M) is l) : ∃ zs : List Int, l = zs.map V.int ∧ zs.length = is.length ∧ ∀ z ∈ zs, z.natAbs ≤ M := by
  induction h with
  | nil => exact ⟨[], rfl, rfl, fun z hLen => by cases hLen⟩
  | cons r t ih =>
    obtain ⟨z, rfl, hLen⟩ := r
    obtain ⟨zs, rfl, hl, hb⟩ := ih
    exact ⟨z :: zs, rfl, by rw [List.length_cons, List.length_cons, hl], fun y hy => by
      rcases List.mem_cons.mp hy with rfl | hy
      · exact hLen
      · exact hb y hy⟩
theorem paired_set {α β : Type} {F : α → β → Prop} {x : α} {y : β} (r : F x y) : ∀ {xs : List α} {ys : List β} (i : Nat), Paired F xs ys → Paired F (xs.set i x) (ys.set i y)
  | _, _, _, .nil => .nil
  | _, _, 0, .cons _ t => .cons r t
  | _, _, i + 1, .cons q t => .cons q (paired_set r i t)
end Gm
namespace Gm
open PySem PySem.Spec PyProof.Rows L2
theorem piT {X : Cx} {e tg : Expr} {te : TE} (K : Frag) (hK : X.K = K) (he : PE X e te) : PI X tg e (iTup K te) := by subst hK; exact pi_tup he
theorem piL {X : Cx} {e tg : Expr} {te : TE} (K : Frag) (hK : X.K = K) (he : PE X e te) : PI X tg e (iList K te) := by subst hK; exact pi_list he
end Gm
namespace Gm
open PySem PySem.Spec PyProof.Rows L2
theorem slS_drop1 {K : Frag} {H : Hp} {a : Addr} {ws : List V} {Q : VK} (hs : Seq K H a ws) (h0 : 0 < ws.length) (q : ∀ p H', Same H H' → Seq K H' p (ws.drop 1) → Q (.ref p) H') : rSlS K (.ref a) (some 1) none H Q := by
  rcases hs with hs | hs
  · exact .inl ⟨a, ws, rfl, hs, fun p np => q p _ (same_upd np) (.inl (.inl (.inl (by rw [upd_same, show (1 : Int) = ((1 : Nat) : Int) from rfl, cut_drop]))))⟩
  · refine .inr ⟨a, ws, rfl, hs, fun e => ?_, fun p np => q p _ (same_upd np) (.inr (.inl (.inl (by rw [upd_same, show (1 : Int) = ((1 : Nat) : Int) from rfl, cut_drop]))))⟩
    have := e.1
    rw [show (1 : Int) = ((1 : Nat) : Int) from rfl, HT.sIx_nat] at this
    omega
end Gm
/-! The end of a law whose promise wants that nobody looks on (// of any size), with the script's bits. -/
namespace Gm
open PySem PySem.Spec PyProof.Rows L2
section
variable {P : Program} {w : World} {K : PySem.W.Frag} {h : Heap} {a : Addr} {o : Obj} {xs : List V}
/-- the heap in the proof's words: the script alone, if the module doesn't own it -/
def scr (K : PySem.W.Frag) (a : Addr) (o : Obj) (xs : List V) : Hp := fun b => if b = a ∧ K.lookup a = none then some (.frz o (.lst xs)) else none
theorem scr_some {b : Addr} {u : HO} (e : scr K a o xs b = some u) : b = a ∧ K.lookup a = none ∧ u = .frz o (.lst xs) := by
  unfold scr at e
  split at e
  · rename_i hh
    exact ⟨hh.1, hh.2, (Option.some.inj e).symm⟩
  · cases e
theorem scr_only : Only (scr K a o xs) := fun b => by
  cases e : scr K a o xs b with
  | none => exact .inl rfl
  | some u => exact .inr ⟨o, xs, by rw [(scr_some e).2.2]⟩
theorem scr_none {b : Addr} (n : b ≠ a) : scr K a o xs b = none := if_neg fun q => n q.1
variable (ha : h.get? a = some o)
include ha
theorem scr_other {b : Addr} {o' : Obj} (e : h.get? b = some o') (n : o'.cls ≠ o.cls ∨ ∃ es ep, o'.data = .dict es ep ∧ ∀ es ep, o.data ≠ .dict es ep) : scr K a o xs b = none := by
  refine scr_none fun z => ?_
  rw [z, ha] at e
  cases e
  rcases n with n | ⟨es, ep, e1, n⟩
  · exact n rfl
  · exact n es ep e1
theorem scr_ns (hd : ∀ es ep, o.data ≠ .dict es ep) {b : Addr} {m : Str → Option Value} (q : h.Ns b m) : (hidT h (scr K a o xs)).Ns b m := by
  obtain ⟨o', es, ep, e, d, r⟩ := q
  exact ⟨o', es, ep, hidT_get e (scr_other ha e (.inr ⟨es, ep, d, hd⟩)), d, r⟩
theorem scr_in (X : K.In h) : K.In (hidT h (scr K a o xs)) := fun b o' e => hidT_get (X b o' e) (by
  cases q : scr K a o xs b with
  | none => rfl
  | some u =>
    obtain ⟨rfl, n, _⟩ := scr_some q
    rw [n] at e
    cases e)
theorem scr_seer (hd : ∀ es ep, o.data ≠ .dict es ep) (hc : o.cls ≠ .type "module") (x : h.NoSeer) : (hidT h (scr K a o xs)).NoSeer where
  statics := let ⟨mc, q, r⟩ := x.statics; ⟨mc, scr_ns ha hd q, r⟩
  mods := let ⟨mc, q, r⟩ := x.mods; ⟨mc, scr_ns ha hd q, r⟩
  imp := let ⟨mc, q, r⟩ := x.imp; ⟨mc, scr_ns ha hd q, r⟩
  main := let ⟨mg, bm, ob, q, r, e, c, d⟩ := x.main; ⟨mg, bm, ob, scr_ns ha hd q, r, hidT_get e (scr_other ha e (.inl fun z => hc (z.symm.trans c))), c, d⟩
end
theorem law_callN {P : Program} {w : World} {K : PySem.W.Frag} {mg mb : Str → Option Value} {k : Nat} {fa a : Addr} {fd : FuncData} {x : Str} {sp : Sp} {s₁ : Shared} {vs : List Value} {ns : List Int}
    (X : K.In s₁.heap) (hns : s₁.heap.Ns mainGlobals mg) (hb : s₁.heap.Ns builtinsNs mb) (hbb : ∀ x : Str, x ≠ "__name__" → mb x = bootBuiltins x) (hlim : s₁.heap.NoLimit) (hseer : s₁.heap.NoSeer) (hg : s₁.gens = #[])
    (ha : s₁.heap.get? a = some { cls := .type "list", data := .seq vs.toArray }) (hi : IntsAre vs ns) (hl : ns.length ≤ sizeLine) (hr : Room k callerA)
    (F : ∀ base : Heap, K.In base → base.Ns mainGlobals mg → base.NoSeer → FnOk P w K mg base CX0 k fa fd [x] sp) (hbind : ∀ (s : Shared) (u : Value), BindsTo s fd ⟨[u], []⟩ [(x, u)])
    (hsp : ∀ H : Hp, Only H → SqL K H a (ns.map V.int) → sp [.ref a] H (fun v _ => v = .bl true) fun _ _ _ => False) :
    codeAny (model P w) callerA (.call (.ref fa) ⟨[.ref a], []⟩) (fun r s' => r = .ok (.ret (.bool true)) ∧ OldK s₁.heap s'.heap ∧ s'.os = s₁.os ∧ AllBare s'.gens) s₁ := by
  have hd : ∀ es ep, ({ cls := .type "list", data := .seq vs.toArray } : Obj).data ≠ .dict es ep := fun es ep z => by cases z
  have rv := vals_ints hi
  generalize hHdef : scr K a { cls := .type "list", data := .seq vs.toArray } (ns.map V.int) = H
  have hO : Only H := hHdef ▸ scr_only
  have hSq : SqL K H a (ns.map V.int) := by
    cases hk : K.lookup a with
    | none => exact .inl (.inr ⟨_, by rw [← hHdef]; exact if_pos ⟨rfl, hk⟩⟩)
    | some o =>
      have e := X a o hk
      rw [ha] at e
      cases e
      exact .inr ⟨_, vs.toArray, _, hk, rfl, rfl, rfl, by rw [List.size_toArray, hi.length]; exact hl, by simpa using rv⟩
  have hok : HOk P w H s₁.heap := fun b u z => by
    rw [← hHdef] at z
    obtain ⟨rfl, _, rfl⟩ := scr_some z
    exact ⟨ha, by rw [List.length_map]; exact hl, vs, _, rv, ha⟩
  have hIn : K.In (hidT s₁.heap H) := hHdef ▸ scr_in ha X
  have hNs : ∀ {b : Addr} {m : Str → Option Value}, s₁.heap.Ns b m → (hidT s₁.heap H).Ns b m := fun q => hHdef ▸ scr_ns ha hd q
  have hSr : (hidT s₁.heap H).NoSeer := hHdef ▸ scr_seer ha hd (fun z => absurd (Value.type.inj z) (by decide)) hseer
  have e0 : Env0 P w K mg (hidT s₁.heap H) callerA [] s₁ H :=
    ⟨rfl, ⟨hIn, hNs hns, ⟨mb, hNs hb, hbb⟩, let ⟨mc, h1, h2⟩ := hlim; ⟨mc, hNs h1, h2⟩⟩, fun b o e => of_hidT e, Nat.le_of_eq (hidT_size _ _), trivial, (fun b hb => nomatch (show b ∈ ([] : List Addr) from hb)), hok, .of_eq hg⟩
  have main := (F _ hIn (hNs hns) hSr).run callerA [] s₁ H ⟨[.ref a], []⟩ [.ref a] [.ref a] _ _ hr e0 (hbind s₁ (.ref a)) (.cons rfl .nil) (hsp H hO hSq)
  refine codeAny_mono main fun r s' q => ?_
  match r, q with
  | .error e, q => exact q.elim
  | .ok .next, q => exact False.elim q
  | .ok .brk, q => exact False.elim q
  | .ok .cont, q => exact False.elim q
  | .ok (.ret u), q =>
    obtain ⟨v, H', os, bare, un, hok', rr, qv⟩ := q
    cases (show v = .bl true from qv)
    cases (show u = Value.bool true from rr)
    refine ⟨rfl, OldK.of_keep fun b o e => ?_, os, bare⟩
    cases hb' : H b with
    | none => exact un.keep b o e hb' (fun z => nomatch (show b ∈ ([] : List Addr) from z)) (by simp)
    | some u =>
      obtain ⟨ob, l, z⟩ := (hO b).resolve_left (by rw [hb']; simp)
      have e1 := (hok b _ z).1
      rw [e] at e1
      cases e1
      exact (hok' b _ (un.frzs b _ _ z)).1
theorem walk_ofN {l : PySem.W.OpenLaw} {n k : Nat} {q : Program} {loose : List Str} {XP : (Str → Option Value) → Heap → Prop} {YP : World → Heap → Prop} {d : DefRec} {K : Params → PySem.W.Frag} {sp : PySem.W.Frag → Sp} {x : Str}
    (hn : l.most = some n) (hn2 : n ≤ sizeLine) (hdf : d.params.defaults = []) (hr : Room k callerA) (hq : importsNone q = true)
    (hY : ∀ (w : World) (h : Heap), YP w h → (K w.params).In h)
    (F : ∀ (w : World) (mg : Str → Option Value) (fa : Addr) (h : Heap), YP w h → (K w.params).In h → h.Ns mainGlobals mg → mg d.name = some (.ref fa) →
      ∃ fd : FuncData, (∀ (s : Shared) (u : Value), BindsTo s fd ⟨[u], []⟩ [(x, u)]) ∧
        ∀ base : Heap, (K w.params).In base → base.Ns mainGlobals mg → base.NoSeer → FnOk l.prog w (K w.params) mg base CX0 k fa fd [x] (sp (K w.params)))
    (hsp : ∀ (K : PySem.W.Frag) (H : Hp) (a : Addr) (ns : List Int), ns.length ≤ n → (∀ z ∈ ns, Builtin.Int.intBits z ≤ 1048576) → SqL K H a (ns.map V.int) → sp K [.ref a] H (fun v _ => v = .bl true) fun _ _ _ => False) :
    PySem.W.WalkO q loose XP YP l.row.toRowW d [] (fun f vs => PySem.call f vs) := by
  refine Att.attach_callB hn hdf fun w s₀ s₁ mg mb fa o pm cd doc a vs ns G Y ho hd hcd hmg hobj hints hlen hbits hg => ?_
  have X := hY w _ Y
  obtain ⟨fd, hb, hF⟩ := F w mg fa _ Y X G.T.g hmg
  exact law_callN X G.T.g G.T.b G.T.builtins G.T.nolimit (G.T.seer hq) hg hobj hints (Nat.le_trans hlen hn2) hr hF hb fun H _ hS => hsp _ H a ns hlen hbits hS
end Gm
namespace K02
open PySem PySem.Spec PyProof.Rows L2 Gm
def topS (i : Nat) : Stmt := PySem.Challenge.pw_gridmetric_k02_determinants.main.body.getD i (.Pass ⟨0, 0, 0, 0⟩)
abbrev s_is_integer : Stmt := topS 5
theorem sc_is_integer : FnScope ["value"] ["value"] (defScope s_is_integer) := ⟨rfl, rfl, rfl, by decide +kernel, rfl, by decide +kernel, by decide +kernel⟩
abbrev s_dot : Stmt := topS 6
theorem sc_dot : FnScope ["a", "b", "x", "y"] ["a", "b"] (defScope s_dot) := ⟨rfl, rfl, rfl, by decide +kernel, rfl, by decide +kernel, by decide +kernel⟩
abbrev s_determinant_of : Stmt := topS 8
theorem sc_determinant_of : FnScope ["rows", "sign", "last", "at", "top", "k", "row"] ["rows"] (defScope s_determinant_of) := ⟨rfl, rfl, rfl, by decide +kernel, rfl, by decide +kernel, by decide +kernel⟩
abbrev s_first_with_head : Stmt := topS 9
theorem sc_first_with_head : FnScope ["rows", "k", "row"] ["rows"] (defScope s_first_with_head) := ⟨rfl, rfl, rfl, by decide +kernel, rfl, by decide +kernel, by decide +kernel⟩
abbrev s_cleared : Stmt := topS 10
theorem sc_cleared : FnScope ["top", "row", "last", "k"] ["top", "row", "last"] (defScope s_cleared) := ⟨rfl, rfl, rfl, by decide +kernel, rfl, by decide +kernel, by decide +kernel⟩
abbrev s_minor : Stmt := topS 11
theorem sc_minor : FnScope ["rows", "i", "j", "kept", "k", "row"] ["rows", "i", "j"] (defScope s_minor) := ⟨rfl, rfl, rfl, by decide +kernel, rfl, by decide +kernel, by decide +kernel⟩
abbrev s_adjugate_of : Stmt := topS 12
theorem sc_adjugate_of : FnScope ["rows", "places", "i", "j"] ["rows"] (defScope s_adjugate_of) := ⟨rfl, rfl, rfl, by decide +kernel, rfl, by decide +kernel, by decide +kernel⟩
abbrev s_signed_minor : Stmt := topS 13
theorem sc_signed_minor : FnScope ["rows", "i", "j"] ["rows", "i", "j"] (defScope s_signed_minor) := ⟨rfl, rfl, rfl, by decide +kernel, rfl, by decide +kernel, by decide +kernel⟩
abbrev s_Grid_init : Stmt := inClass (topS 15) 0
theorem sc_Grid_init : FnScope ["self", "rows", "width"] ["self", "rows", "width"] (defScope s_Grid_init) := ⟨rfl, rfl, rfl, by decide +kernel, rfl, by decide +kernel, by decide +kernel⟩
abbrev s_Grid_len : Stmt := inClass (topS 15) 2
theorem sc_Grid_len : FnScope ["self"] ["self"] (defScope s_Grid_len) := ⟨rfl, rfl, rfl, by decide +kernel, rfl, by decide +kernel, by decide +kernel⟩
abbrev s_Grid_mul : Stmt := inClass (topS 15) 6
theorem sc_Grid_mul : FnScope ["self", "other", "columns", "row", "column"] ["self", "other"] (defScope s_Grid_mul) := ⟨rfl, rfl, rfl, by decide +kernel, rfl, by decide +kernel, by decide +kernel⟩
abbrev s_Grid_transposed : Stmt := inClass (topS 15) 9
theorem sc_Grid_transposed : FnScope ["self", "places", "k", "row"] ["self"] (defScope s_Grid_transposed) := ⟨rfl, rfl, rfl, by decide +kernel, rfl, by decide +kernel, by decide +kernel⟩
abbrev s_Grid_is_square : Stmt := inClass (topS 15) 13
theorem sc_Grid_is_square : FnScope ["self"] ["self"] (defScope s_Grid_is_square) := ⟨rfl, rfl, rfl, by decide +kernel, rfl, by decide +kernel, by decide +kernel⟩
abbrev s_Grid_determinant : Stmt := inClass (topS 15) 14
theorem sc_Grid_determinant : FnScope ["self"] ["self"] (defScope s_Grid_determinant) := ⟨rfl, rfl, rfl, by decide +kernel, rfl, by decide +kernel, by decide +kernel⟩
abbrev s_Grid_adjugate : Stmt := inClass (topS 15) 15
theorem sc_Grid_adjugate : FnScope ["self"] ["self"] (defScope s_Grid_adjugate) := ⟨rfl, rfl, rfl, by decide +kernel, rfl, by decide +kernel, by decide +kernel⟩
abbrev s_Grid_is_unimodular : Stmt := inClass (topS 15) 16
theorem sc_Grid_is_unimodular : FnScope ["self"] ["self"] (defScope s_Grid_is_unimodular) := ⟨rfl, rfl, rfl, by decide +kernel, rfl, by decide +kernel, by decide +kernel⟩
abbrev s_checked_rows : Stmt := topS 16
theorem sc_checked_rows : FnScope ["rows", "row", "item"] ["rows"] (defScope s_checked_rows) := ⟨rfl, rfl, rfl, by decide +kernel, rfl, by decide +kernel, by decide +kernel⟩
abbrev s_checked_width : Stmt := topS 17
theorem sc_checked_width : FnScope ["rows", "width", "row"] ["rows", "width"] (defScope s_checked_width) := ⟨rfl, rfl, rfl, by decide +kernel, rfl, by decide +kernel, by decide +kernel⟩
abbrev s_check_square : Stmt := topS 19
theorem sc_check_square : FnScope ["a"] ["a"] (defScope s_check_square) := ⟨rfl, rfl, rfl, by decide +kernel, rfl, by decide +kernel, by decide +kernel⟩
abbrev s_law_cell : Stmt := topS 21
theorem sc_law_cell : FnScope ["script", "k"] ["script", "k"] (defScope s_law_cell) := ⟨rfl, rfl, rfl, by decide +kernel, rfl, by decide +kernel, by decide +kernel⟩
abbrev s_law_state : Stmt := topS 22
theorem sc_law_state : FnScope ["script", "seed", "total", "cell"] ["script"] (defScope s_law_state) := ⟨rfl, rfl, rfl, by decide +kernel, rfl, by decide +kernel, by decide +kernel⟩
abbrev s_law_take : Stmt := topS 23
theorem sc_law_take : FnScope ["state", "m", "value"] ["state", "m"] (defScope s_law_take) := ⟨rfl, rfl, rfl, by decide +kernel, rfl, by decide +kernel, by decide +kernel⟩
abbrev s_law_rows : Stmt := topS 24
theorem sc_law_rows : FnScope ["state", "height", "width", "most", "rows", "i", "k"] ["state", "height", "width", "most"] (defScope s_law_rows) := ⟨rfl, rfl, rfl, by decide +kernel, rfl, by decide +kernel, by decide +kernel⟩
abbrev s_law_product : Stmt := topS 25
theorem sc_law_product : FnScope ["a", "b", "width", "out", "row", "line", "k", "total", "j"] ["a", "b", "width"] (defScope s_law_product) := ⟨rfl, rfl, rfl, by decide +kernel, rfl, by decide +kernel, by decide +kernel⟩
abbrev s_law_determinant : Stmt := topS 26
theorem sc_law_determinant : FnScope ["rows", "total", "k", "minor_v", "row"] ["rows"] (defScope s_law_determinant) := ⟨rfl, rfl, rfl, by decide +kernel, rfl, by decide +kernel, by decide +kernel⟩
abbrev s_law_is_rows : Stmt := topS 27
theorem sc_law_is_rows : FnScope ["value", "height", "width", "row", "x"] ["value", "height", "width"] (defScope s_law_is_rows) := ⟨rfl, rfl, rfl, by decide +kernel, rfl, by decide +kernel, by decide +kernel⟩
abbrev s_law_refused : Stmt := topS 28
theorem sc_law_refused : FnScope ["grid", "count"] ["grid"] (defScope s_law_refused) := ⟨rfl, rfl, rfl, by decide +kernel, rfl, by decide +kernel, by decide +kernel⟩
abbrev s_law : Stmt := topS 29
theorem sc_law : FnScope ["script", "state", "n", "a", "b", "x", "y", "d", "e", "adjugate", "due", "i", "line", "k", "minor_v", "scalar", "row"] ["script"] (defScope s_law) := ⟨rfl, rfl, rfl, by decide +kernel, rfl, by decide +kernel, by decide +kernel⟩
structure Top (K : PySem.W.Frag) (mg : Str → Option Value) where
  a_is_integer : Addr
  a_dot : Addr
  a_determinant_of : Addr
  a_first_with_head : Addr
  a_cleared : Addr
  a_minor : Addr
  a_adjugate_of : Addr
  a_signed_minor : Addr
  a_Grid_init : Addr
  a_Grid_len : Addr
  a_Grid_mul : Addr
  a_Grid_transposed : Addr
  a_Grid_is_square : Addr
  a_Grid_determinant : Addr
  a_Grid_adjugate : Addr
  a_Grid_is_unimodular : Addr
  a_checked_rows : Addr
  a_checked_width : Addr
  a_check_square : Addr
  a_law_cell : Addr
  a_law_state : Addr
  a_law_take : Addr
  a_law_rows : Addr
  a_law_product : Addr
  a_law_determinant : Addr
  a_law_is_rows : Addr
  a_law_refused : Addr
  a_law : Addr
  d_is_integer : FuncData
  d_dot : FuncData
  d_determinant_of : FuncData
  d_first_with_head : FuncData
  d_cleared : FuncData
  d_minor : FuncData
  d_adjugate_of : FuncData
  d_signed_minor : FuncData
  d_Grid_init : FuncData
  d_Grid_len : FuncData
  d_Grid_mul : FuncData
  d_Grid_transposed : FuncData
  d_Grid_is_square : FuncData
  d_Grid_determinant : FuncData
  d_Grid_adjugate : FuncData
  d_Grid_is_unimodular : FuncData
  d_checked_rows : FuncData
  d_checked_width : FuncData
  d_check_square : FuncData
  d_law_cell : FuncData
  d_law_state : FuncData
  d_law_take : FuncData
  d_law_rows : FuncData
  d_law_product : FuncData
  d_law_determinant : FuncData
  d_law_is_rows : FuncData
  d_law_refused : FuncData
  d_law : FuncData
  C_Grid : Addr
  X_Malformed : Addr
  F_is_integer : Fun K "is_integer" "is_integer" s_is_integer a_is_integer d_is_integer
  b_is_integer : Binds K d_is_integer ["value"] []
  g_is_integer : mg "is_integer" = some (.ref a_is_integer)
  F_dot : Fun K "dot" "dot" s_dot a_dot d_dot
  b_dot : Binds K d_dot ["a", "b"] []
  g_dot : mg "dot" = some (.ref a_dot)
  F_determinant_of : Fun K "determinant_of" "determinant_of" s_determinant_of a_determinant_of d_determinant_of
  b_determinant_of : Binds K d_determinant_of ["rows"] []
  g_determinant_of : mg "determinant_of" = some (.ref a_determinant_of)
  F_first_with_head : Fun K "first_with_head" "first_with_head" s_first_with_head a_first_with_head d_first_with_head
  b_first_with_head : Binds K d_first_with_head ["rows"] []
  g_first_with_head : mg "first_with_head" = some (.ref a_first_with_head)
  F_cleared : Fun K "cleared" "cleared" s_cleared a_cleared d_cleared
  b_cleared : Binds K d_cleared ["top", "row", "last"] []
  g_cleared : mg "cleared" = some (.ref a_cleared)
  F_minor : Fun K "minor" "minor" s_minor a_minor d_minor
  b_minor : Binds K d_minor ["rows", "i", "j"] []
  g_minor : mg "minor" = some (.ref a_minor)
  F_adjugate_of : Fun K "adjugate_of" "adjugate_of" s_adjugate_of a_adjugate_of d_adjugate_of
  b_adjugate_of : Binds K d_adjugate_of ["rows"] []
  g_adjugate_of : mg "adjugate_of" = some (.ref a_adjugate_of)
  F_signed_minor : Fun K "signed_minor" "signed_minor" s_signed_minor a_signed_minor d_signed_minor
  b_signed_minor : Binds K d_signed_minor ["rows", "i", "j"] []
  g_signed_minor : mg "signed_minor" = some (.ref a_signed_minor)
  F_Grid_init : FunD K "__init__" "Grid.__init__" (defArgs s_Grid_init) (defBody s_Grid_init) (defScope s_Grid_init) [.non] [] a_Grid_init d_Grid_init
  b_Grid_init : Binds K d_Grid_init ["self", "rows", "width"] []
  F_Grid_len : Fun K "__len__" "Grid.__len__" s_Grid_len a_Grid_len d_Grid_len
  b_Grid_len : Binds K d_Grid_len ["self"] []
  m_Grid_len : Meth K C_Grid "__len__" a_Grid_len
  F_Grid_mul : Fun K "__mul__" "Grid.__mul__" s_Grid_mul a_Grid_mul d_Grid_mul
  b_Grid_mul : Binds K d_Grid_mul ["self", "other"] []
  m_Grid_mul : Meth K C_Grid "__mul__" a_Grid_mul
  F_Grid_transposed : Fun K "transposed" "Grid.transposed" s_Grid_transposed a_Grid_transposed d_Grid_transposed
  b_Grid_transposed : Binds K d_Grid_transposed ["self"] []
  m_Grid_transposed : Meth K C_Grid "transposed" a_Grid_transposed
  F_Grid_is_square : Fun K "is_square" "Grid.is_square" s_Grid_is_square a_Grid_is_square d_Grid_is_square
  b_Grid_is_square : Binds K d_Grid_is_square ["self"] []
  m_Grid_is_square : Meth K C_Grid "is_square" a_Grid_is_square
  F_Grid_determinant : Fun K "determinant" "Grid.determinant" s_Grid_determinant a_Grid_determinant d_Grid_determinant
  b_Grid_determinant : Binds K d_Grid_determinant ["self"] []
  m_Grid_determinant : Meth K C_Grid "determinant" a_Grid_determinant
  F_Grid_adjugate : Fun K "adjugate" "Grid.adjugate" s_Grid_adjugate a_Grid_adjugate d_Grid_adjugate
  b_Grid_adjugate : Binds K d_Grid_adjugate ["self"] []
  m_Grid_adjugate : Meth K C_Grid "adjugate" a_Grid_adjugate
  F_Grid_is_unimodular : Fun K "is_unimodular" "Grid.is_unimodular" s_Grid_is_unimodular a_Grid_is_unimodular d_Grid_is_unimodular
  b_Grid_is_unimodular : Binds K d_Grid_is_unimodular ["self"] []
  m_Grid_is_unimodular : Meth K C_Grid "is_unimodular" a_Grid_is_unimodular
  F_checked_rows : Fun K "checked_rows" "checked_rows" s_checked_rows a_checked_rows d_checked_rows
  b_checked_rows : Binds K d_checked_rows ["rows"] []
  g_checked_rows : mg "checked_rows" = some (.ref a_checked_rows)
  F_checked_width : Fun K "checked_width" "checked_width" s_checked_width a_checked_width d_checked_width
  b_checked_width : Binds K d_checked_width ["rows", "width"] []
  g_checked_width : mg "checked_width" = some (.ref a_checked_width)
  F_check_square : Fun K "check_square" "check_square" s_check_square a_check_square d_check_square
  b_check_square : Binds K d_check_square ["a"] []
  g_check_square : mg "check_square" = some (.ref a_check_square)
  F_law_cell : Fun K "_law_cell" "_law_cell" s_law_cell a_law_cell d_law_cell
  b_law_cell : Binds K d_law_cell ["script", "k"] []
  g_law_cell : mg "_law_cell" = some (.ref a_law_cell)
  F_law_state : Fun K "_law_state" "_law_state" s_law_state a_law_state d_law_state
  b_law_state : Binds K d_law_state ["script"] []
  g_law_state : mg "_law_state" = some (.ref a_law_state)
  F_law_take : Fun K "_law_take" "_law_take" s_law_take a_law_take d_law_take
  b_law_take : Binds K d_law_take ["state", "m"] []
  g_law_take : mg "_law_take" = some (.ref a_law_take)
  F_law_rows : Fun K "_law_rows" "_law_rows" s_law_rows a_law_rows d_law_rows
  b_law_rows : Binds K d_law_rows ["state", "height", "width", "most"] []
  g_law_rows : mg "_law_rows" = some (.ref a_law_rows)
  F_law_product : Fun K "_law_product" "_law_product" s_law_product a_law_product d_law_product
  b_law_product : Binds K d_law_product ["a", "b", "width"] []
  g_law_product : mg "_law_product" = some (.ref a_law_product)
  F_law_determinant : Fun K "_law_determinant" "_law_determinant" s_law_determinant a_law_determinant d_law_determinant
  b_law_determinant : Binds K d_law_determinant ["rows"] []
  g_law_determinant : mg "_law_determinant" = some (.ref a_law_determinant)
  F_law_is_rows : Fun K "_law_is_rows" "_law_is_rows" s_law_is_rows a_law_is_rows d_law_is_rows
  b_law_is_rows : Binds K d_law_is_rows ["value", "height", "width"] []
  g_law_is_rows : mg "_law_is_rows" = some (.ref a_law_is_rows)
  F_law_refused : Fun K "_law_refused" "_law_refused" s_law_refused a_law_refused d_law_refused
  b_law_refused : Binds K d_law_refused ["grid"] []
  g_law_refused : mg "_law_refused" = some (.ref a_law_refused)
  F_law : Fun K "law" "law" s_law a_law d_law
  b_law : Binds K d_law ["script"] []
  g_law : mg "law" = some (.ref a_law)
  g_Grid : mg "Grid" = some (.ref C_Grid)
  cl_Grid : Cls K C_Grid
  mk_Grid : Mk K C_Grid a_Grid_init
  n_rows : NoAttr K C_Grid "rows"
  n_width : NoAttr K C_Grid "width"
  sf_Grid : PySem.W.selfFirst K C_Grid = true
  kc_Grid : PySem.W.findIn K (.ref C_Grid) "__class__" = some (some (.builtin "object.__class__"))
  kg_Grid : PySem.W.specialIn K (.builtin "object.__class__") "__get__" = some (some (.builtin "getset_descriptor.__get__"))
  kt_Grid : PySem.W.takesIn K (.builtin "object.__class__") = some true
  km_Grid : PySem.W.mroIn K C_Grid (.type "object") = some true
  z_ValueError : mg "ValueError" = none
  z_abs : mg "abs" = none
  z_all : mg "all" = none
  z_bool : mg "bool" = none
  z_enumerate : mg "enumerate" = none
  z_int : mg "int" = none
  z_isinstance : mg "isinstance" = none
  z_len : mg "len" = none
  z_list : mg "list" = none
  z_range : mg "range" = none
  z_sum : mg "sum" = none
  z_tuple : mg "tuple" = none
  z_zip : mg "zip" = none
  gX_Malformed : mg "Malformed" = some (.ref X_Malformed)
  xX_Malformed : PySem.W.excIn K X_Malformed [.type "ValueError", .type "Exception", .type "BaseException", .type "object"] "ValueError.__new__" = true
  kX_Malformed : PySem.W.keepIn K (.ref X_Malformed) = true
  bX_Malformed : PySem.W.subIn K (.ref X_Malformed) (.type "BaseException") = some true
  tX_Malformed : PySem.W.typeIn K (.ref X_Malformed) = some (.type "type")
  iX_Malformed : PySem.W.isClsIn K X_Malformed = true
  sX_Malformed : PySem.W.subIn K (.ref X_Malformed) (.ref X_Malformed) = some true
end K02
namespace K02
open PySem PySem.Spec PyProof.Rows L2 Gm
open C8 (Cal Met Mak pe_c pe_mt pe_mt0 pe_mk)
section
variable {P : Program} {w : World} {K : PySem.W.Frag} {mg : Str → Option Value} {base : Heap}
/-! ### is_integer -/
def sp_is_integer : Sp := fun vs H Q _ => ∃ i, vs = [V.int i] ∧ Q (.bl true) H
theorem ok_is_integer (T : Top K mg) : FnOk P w K mg base CX0 1 T.a_is_integer T.d_is_integer ["value"] sp_is_integer := by
  refine T.F_is_integer.ok sc_is_integer (fun vs H Q E h => ?_) (fun cdv A outer s H vs Q E hr h => ?_)
  · obtain ⟨i, rfl, _⟩ := h
    rfl
  · obtain ⟨i, rfl, q⟩ := h
    refine ⟨_, (pss_one (ps_ret (pe_and (pe_callB (isiK K rfl) (by rfl) T.z_isinstance (by decide +kernel) (pa_cons (pv 0) (pa_cons (pe_bltn (v := .ty "int") (by rfl) T.z_int (by decide +kernel) rfl) pa_nil))) (pe_one (pe_not (pe_callB (isiK K rfl) (by rfl) T.z_isinstance (by decide +kernel) (pa_cons (pv 0) (pa_cons (pe_bltn (v := .ty "bool") (by rfl) T.z_bool (by decide +kernel) rfl) pa_nil)))))))), ?_⟩
    refine ⟨_, rfl, .int i, .ty "int", _, _, true, rfl, .ty "int", .base (.int i), kit_ty (by decide +kernel), true, rfl, iteT ?_⟩
    exact ⟨_, rfl, .int i, .ty "bool", _, _, false, rfl, .ty "bool", .base (.int i), kit_ty (by decide +kernel), false, rfl, q⟩
theorem cal_is_integer (T : Top K mg) (hN : base.NoSeer) (hT : P.given.tree = none) : Cal P w K mg base 1 "is_integer" sp_is_integer [] := ⟨⟨_, _, _, [], ok_is_integer T, T.g_is_integer, T.F_is_integer.kp, T.b_is_integer, .nil⟩⟩
/-! ### first_with_head -/
/-- the first place from k on whose row does not begin with 0 -/
def firstHead : List (List Int) → Nat → Option Nat
  | [], _ => none
  | r :: rs, k => if r.headD 0 ≠ 0 then some k else firstHead rs (k + 1)
theorem firstHead_step : ∀ (m : List (List Int)) (i j : Nat) (r : List Int), m[i]? = some r → (∀ k, k < i → ∀ r', m[k]? = some r' → r'.headD 0 = 0) → firstHead m j = if r.headD 0 ≠ 0 then some (j + i) else firstHead (m.drop (i + 1)) (j + i + 1)
  | [], i, j, r, h, _ => by simp at h
  | a :: m, 0, j, r, h, _ => by
    have e : a = r := by simpa using h
    subst e
    rfl
  | a :: m, i + 1, j, r, h, z => by
    have h0 : a.headD 0 = 0 := z 0 (Nat.succ_pos _) a rfl
    show (if a.headD 0 ≠ 0 then some j else firstHead m (j + 1)) = _
    rw [if_neg (by rw [h0]; simp), firstHead_step m i (j + 1) r (by simpa using h) fun k hk r' e => z (k + 1) (by omega) r' (by simpa using e)]
    rw [show j + 1 + i = j + (i + 1) by omega]
    rfl
theorem firstHead_none {m : List (List Int)} : ∀ {j : Nat}, (∀ r ∈ m, r.headD 0 = 0) → firstHead m j = none := by
  induction m with
  | nil => intro _ _; rfl
  | cons a m ih =>
    intro j h
    show (if a.headD 0 ≠ 0 then some j else firstHead m (j + 1)) = none
    rw [if_neg (by rw [h a (List.mem_cons_self ..)]; simp), ih fun r hr => h r (List.mem_cons_of_mem _ hr)]
def optV : Option Nat → V
  | none => .non
  | some k => .int k
def sp_first_with_head (K : PySem.W.Frag) : Sp := fun vs H Q _ => ∃ v m, vs = [v] ∧ IRows K H v m ∧ m.length ≤ 1000 ∧ (∀ r ∈ m, r ≠ []) ∧ ∀ H', Same H H' → Q (optV (firstHead m 0)) H'
theorem ok_first_with_head (T : Top K mg) : FnOk P w K mg base CX0 1 T.a_first_with_head T.d_first_with_head ["rows"] (sp_first_with_head K) := by
  refine T.F_first_with_head.ok sc_first_with_head (fun vs H Q E h => ?_) (fun cdv A outer s H vs Q E hr h => ?_)
  · obtain ⟨v, m, rfl, _⟩ := h
    rfl
  · obtain ⟨v, m, rfl, ⟨a, vs, rfl, hs, hp⟩, hl, hne, q⟩ := h
    refine ⟨_, (pss_cons (ps_for PassesOwn.never rfl (piEnum K rfl (by rfl) T.z_enumerate (pa_cons (pv 0) pa_nil)) (pg_tup rfl (pgs_cons (pg_name (i := 1) sc_first_with_head.nd rfl (by first | exact .inl rfl | exact .inr rfl)) (pgs_cons (pg_name (i := 2) sc_first_with_head.nd rfl (by first | exact .inl rfl | exact .inr rfl)) pgs_nil)))
      (pss_one (ps_if (pt_cmpR op_ne (pe_ix (ixS K rfl) (pv 2) pe_int (fun _ _ => rfl)) pe_int (nomark _))
      (pss_one (ps_ret (pv 1)))
      pss_nil)))
      (pss_one (ps_ret pe_non))), ?_⟩
    have lv := Paired.length hp
    refine ⟨_, rfl, a, vs, rfl, hs, fun J G W hG => ?_⟩
    refine for_it W (fun i σ H2 => ∃ y1 y2, σ = [some (.ref a), y1, y2] ∧ Same H H2 ∧ ∀ k, k < i → ∀ r, m[k]? = some r → r.headD 0 = 0) ⟨none, none, rfl, Same.refl H, fun k hk => absurd hk (Nat.not_lt_zero _)⟩ ?_ ?_ ?_
    · rintro i σ H2 hi ⟨y1, y2, rfl, s2, _⟩
      exact hG _ fun b _ o => s2 b o
    · rintro i x σ H2 H2' hi ⟨y1, y2, rfl, s2, hz⟩ ⟨U, x1, x2, rfl, nU, rfl, e1, e2⟩
      cases e1
      obtain ⟨r, er, a2, rfl, hs2⟩ := Paired.getR hp e2
      have hmr : r ∈ m := List.mem_of_getElem? er
      obtain ⟨z, r', rfl⟩ : ∃ z r', r = z :: r' := by
        cases r with
        | nil => exact absurd rfl (hne _ hmr)
        | cons z r' => exact ⟨z, r', rfl⟩
      have sU : Same H2 (upd H2 U (.tup [.int (i : Nat), .ref a2])) := same_upd nU
      refine g_pair nU ?_
      have hs3 := hs2.same (s2.trans sU)
      refine ⟨_, rfl, ?_⟩
      have at0 : atI ((z :: r').map V.int) 0 = some (.int z) := atI_nat (j := 0) rfl
      refine rIx_seq hs3 at0 ?_
      refine ⟨rfl, _, rfl, ?_⟩
      by_cases hz0 : z = 0
      · subst hz0
        refine iteNS rfl ?_
        refine ⟨_, _, rfl, s2.trans sU, fun k hk r'' e => ?_⟩
        by_cases hki : k = i
        · subst hki
          rw [er] at e
          cases e
          rfl
        · exact hz k (by omega) r'' e
      · rw [show decide (V.int z = V.int 0) = false from decide_eq_false fun e => hz0 (V.int.inj e)]
        refine iteT ?_
        refine ⟨_, rfl, ?_⟩
        have e := firstHead_step m i 0 (z :: r') er hz
        rw [if_pos (show (z :: r').headD 0 ≠ 0 from hz0), Nat.zero_add] at e
        rw [e] at q
        exact q _ (s2.trans sU)
    · rintro σ H2 ⟨y1, y2, rfl, s2, hz⟩
      have e : firstHead m 0 = none := firstHead_none fun r hr => by
        obtain ⟨k, hk⟩ := List.getElem?_of_mem hr
        refine hz k ?_ r hk
        rw [lv]
        exact (List.getElem?_eq_some_iff.mp hk).1
      rw [e] at q
      exact q _ s2
theorem cal_first_with_head (T : Top K mg) (hN : base.NoSeer) (hT : P.given.tree = none) : Cal P w K mg base 1 "first_with_head" (sp_first_with_head K) [] := ⟨⟨_, _, _, [], ok_first_with_head T, T.g_first_with_head, T.F_first_with_head.kp, T.b_first_with_head, .nil⟩⟩

end
end K02
namespace K02
open PySem PySem.Spec PyProof.Rows L2 Gm
open C8 (Cal Met Mak pe_c pe_mt pe_mt0 pe_mk)
section
variable {P : Program} {w : World} {K : PySem.W.Frag} {mg : Str → Option Value} {base : Heap}
/-! ### cleared -/
/-- the items of the row behind its first, once that is made 0 by the top row -/
def clr (ts rs : List Int) (l : Int) : List Int := List.zipWith (fun a b => (ts.headD 0 * b - rs.headD 0 * a).fdiv l) ts.tail rs.tail
theorem clr_len {ts rs : List Int} {l : Int} (h : ts.length = rs.length) : (clr ts rs l).length = ts.length - 1 := by
  unfold clr
  rw [List.length_zipWith, List.length_tail, List.length_tail, h, Nat.min_self]
theorem clr_get {ts rs : List Int} {l : Int} {k : Nat} {a b : Int} (h1 : ts[k + 1]? = some a) (h2 : rs[k + 1]? = some b) : (clr ts rs l)[k]? = some ((ts.headD 0 * b - rs.headD 0 * a).fdiv l) := by
  unfold clr
  rw [List.getElem?_zipWith]
  have e1 : ts.tail[k]? = some a := by rw [List.getElem?_tail]; exact h1
  have e2 : rs.tail[k]? = some b := by rw [List.getElem?_tail]; exact h2
  rw [e1, e2]
/-- all items have fewer than B bits -/
def Bits (B : Nat) (ns : List Int) : Prop := ∀ x ∈ ns, x.natAbs < 2 ^ B
theorem Bits.at {B : Nat} {ns : List Int} {k : Nat} {x : Int} (h : Bits B ns) (e : ns[k]? = some x) : x.natAbs < 2 ^ B := h x (List.mem_of_getElem? e)
def sp_cleared (K : PySem.W.Frag) : Sp := fun vs H Q _ => ∃ v1 v2 ts rs l B, vs = [v1, v2, V.int l] ∧ IRow K H v1 ts ∧ IRow K H v2 rs ∧ ts.length = rs.length ∧ 0 < ts.length ∧ ts.length ≤ 1000 ∧ l ≠ 0 ∧ Bits B ts ∧ Bits B rs ∧ B ≤ 60000000 ∧
  ∀ H' p, Same H H' → H p = none → H' p = some (.lst ((clr ts rs l).map V.int)) → Q (.ref p) H'
theorem ok_cleared (T : Top K mg) (hN : base.NoSeer) (hT : P.given.tree = none) : FnOk P w K mg base CX0 41 T.a_cleared T.d_cleared ["top", "row", "last"] (sp_cleared K) := by
  refine T.F_cleared.ok sc_cleared (fun vs H Q E h => ?_) (fun cdv A outer s H vs Q E hr h => ?_)
  · obtain ⟨v1, v2, ts, rs, l, B, rfl, _⟩ := h
    rfl
  · obtain ⟨v1, v2, ts, rs, l, B, rfl, ⟨a, rfl, ht⟩, ⟨b, rfl, hr'⟩, hl, h0, hl2, hl0, bt, br, hB, q⟩ := h
    refine ⟨_, (pss_one (ps_ret (pe_lc (own := [("k", 3)]) (g := (gName 3)) (by rfl) sc_cleared.nd (pi_range2 (by rfl) T.z_range (pa_cons pe_int (pa_cons (pe_callB (lenS K rfl) (by rfl) T.z_len (by decide +kernel) (pa_cons (pv 0) pa_nil)) pa_nil))) ((by show BlkOk ["top", "row", "last", "k"] (defScope s_cleared) _ _; exact blkOk_by (by decide +kernel))) (fun _ _ _ _ _ => (pg_name (i := 3) sc_cleared.nd rfl (by first | exact .inl rfl | exact .inr rfl))) (fun _ _ _ _ _ => pts_nil) (fun _ _ _ _ _ => (pe_op (op_fdivQ hN rfl rfl rfl rfl rfl hT (room100 hr (by decide))) (pe_op op_sub (pe_op op_mulX (pe_ix (ixS K rfl) (pv 0) pe_int (fun _ _ => rfl)) (pe_ix (ixS K rfl) (pv 1) (pv 3) (fun _ _ => rfl))) (pe_op op_mulX (pe_ix (ixS K rfl) (pv 1) pe_int (fun _ _ => rfl)) (pe_ix (ixS K rfl) (pv 0) (pv 3) (fun _ _ => rfl)))) (pv 2)))))), ?_⟩
    refine ⟨_, rfl, a, _, rfl, ht, 1, _, rfl, ⟨by decide, by decide, by rw [List.length_map]; omega, by rw [List.length_map]; omega⟩, fun D hD => ?_⟩
    refine lc_all walk_range hD (by rw [List.length_map]; omega) (fun _ _ => trivial) (fun i v _ => ∃ x y, ts[i + 1]? = some x ∧ rs[i + 1]? = some y ∧ v = .int ((ts.headD 0 * y - rs.headD 0 * x).fdiv l)) (fun _ _ _ _ _ _ _ h => h) ?_ gm_name ?_
    · rintro i x H2 H2' acc Ko hi s2 eD ⟨rfl, rfl⟩ k
      refine ⟨rfl, ?_⟩
      have hi' : i + 1 < ts.length := by
        rw [List.length_map] at hi
        omega
      have hi2 : i + 1 < rs.length := by omega
      have e0 : atI (ts.map V.int) 0 = some (.int (ts.headD 0)) := by
        cases ts with
        | nil => exact absurd h0 (by simp)
        | cons t ts => exact atI_nat (j := 0) rfl
      have f0 : atI (rs.map V.int) 0 = some (.int (rs.headD 0)) := by
        cases rs with
        | nil => rw [List.length_nil] at hi2; omega
        | cons t ts => exact atI_nat (j := 0) rfl
      have e1 : atI (ts.map V.int) (1 + (i : Nat)) = some (.int ts[i + 1]) := at_of (j := i + 1) (by omega) (ints_at (List.getElem?_eq_getElem hi'))
      have f1 : atI (rs.map V.int) (1 + (i : Nat)) = some (.int rs[i + 1]) := at_of (j := i + 1) (by omega) (ints_at (List.getElem?_eq_getElem hi2))
      have bt0 : (ts.headD 0).natAbs < 2 ^ B := by
        cases ts with
        | nil => exact absurd h0 (by simp)
        | cons t ts => exact bt t (List.mem_cons_self ..)
      have br0 : (rs.headD 0).natAbs < 2 ^ B := by
        cases rs with
        | nil => rw [List.length_nil] at hi2; omega
        | cons t ts => exact br t (List.mem_cons_self ..)
      refine ⟨_, rfl, ?_⟩
      refine rIx_seq (ht.same s2) e0 ?_
      refine ⟨_, rfl, _, rfl, ?_⟩
      refine rIx_seq (hr'.same s2) f1 ?_
      refine ⟨_, _, rfl, rfl, mulx_ok bt0 (br.at (List.getElem?_eq_getElem hi2)) (by omega), ?_⟩
      refine ⟨_, rfl, ?_⟩
      refine rIx_seq (hr'.same s2) f0 ?_
      refine ⟨_, rfl, _, rfl, ?_⟩
      refine rIx_seq (ht.same s2) e1 ?_
      refine ⟨_, _, rfl, rfl, mulx_ok br0 (bt.at (List.getElem?_eq_getElem hi')) (by omega), ?_⟩
      refine ⟨_, _, rfl, rfl, ?_⟩
      refine ⟨_, rfl, _, l, rfl, rfl, hl0, ?_⟩
      exact k _ _ (Same.refl _) ⟨_, _, List.getElem?_eq_getElem hi', List.getElem?_eq_getElem hi2, rfl⟩
    · intro H2 lst s2 eD hp
      have el : lst = (clr ts rs l).map V.int := by
        apply List.ext_getElem?
        intro i
        have ln := Paired.length hp
        rw [List.length_range, List.length_map] at ln
        have lc := clr_len (l := l) hl
        by_cases hi : i < lst.length
        · obtain ⟨j, ej, x, y, ex, ey, ev⟩ := Paired.getL hp (List.getElem?_eq_getElem hi)
          have hj : j = i := by
            have := List.getElem?_range (n := ((ts.length : Int) - 1).toNat) (i := i) (by omega)
            rw [List.length_map] at ej
            rw [this] at ej
            exact (Option.some.inj ej).symm
          subst hj
          rw [List.getElem?_eq_getElem hi, ev, List.getElem?_map, clr_get ex ey]
          rfl
        · rw [List.getElem?_eq_none (by omega), List.getElem?_eq_none (by rw [List.length_map]; omega)]
      rw [el] at eD
      exact q H2 D s2 hD eD
theorem cal_cleared (T : Top K mg) (hN : base.NoSeer) (hT : P.given.tree = none) : Cal P w K mg base 41 "cleared" (sp_cleared K) [] := ⟨⟨_, _, _, [], ok_cleared T hN hT, T.g_cleared, T.F_cleared.kp, T.b_cleared, .nil⟩⟩

end
end K02
namespace K02
open PySem PySem.Spec PyProof.Rows L2 Gm
open C8 (Cal Met Mak pe_c pe_mt pe_mt0 pe_mk)
section
variable {P : Program} {w : World} {K : PySem.W.Frag} {mg : Str → Option Value} {base : Heap}
/-! ### determinant_of -/
/-- the elimination without fractions, by the number of rows -/
def bare : Nat → Int → Int → List (List Int) → Int
  | 0, s, l, _ => s * l
  | n + 1, s, l, m => match firstHead m 0 with
    | none => 0
    | some k => bare n (if k % 2 = 1 then -s else s) ((m.getD k []).headD 0) ((m.eraseIdx k).map fun r => clr (m.getD k []) r l)
theorem firstHead_some : ∀ {m : List (List Int)} {j k : Nat}, firstHead m j = some k → j ≤ k ∧ k < j + m.length ∧ (m.getD (k - j) []).headD 0 ≠ 0
  | [], _, _, h => by cases h
  | a :: m, j, k, h => by
    by_cases ha : a.headD 0 ≠ 0
    · have e : firstHead (a :: m) j = some j := if_pos ha
      rw [e] at h
      cases h
      refine ⟨Nat.le_refl _, by simp, ?_⟩
      rw [Nat.sub_self]
      exact ha
    · have e : firstHead (a :: m) j = firstHead m (j + 1) := if_neg ha
      rw [e] at h
      obtain ⟨h1, h2, h3⟩ := firstHead_some h
      refine ⟨by omega, by rw [List.length_cons]; omega, ?_⟩
      rw [show k - j = (k - (j + 1)) + 1 by omega]
      exact h3
theorem fdiv_le (x l : Int) : (x.fdiv l).natAbs ≤ x.natAbs := by
  cases x with
  | ofNat m =>
    cases l with
    | ofNat n =>
      show (Int.fdiv (m : Int) (n : Int)).natAbs ≤ m
      rw [Int.fdiv_eq_ediv_of_nonneg _ (by omega)]
      show m / n ≤ m
      exact Nat.div_le_self _ _
    | negSucc n =>
      cases m with
      | zero => exact Nat.le_refl _
      | succ m =>
        show (m / (n + 1)) + 1 ≤ m + 1
        have := Nat.div_le_self m (n + 1)
        omega
  | negSucc m =>
    cases l with
    | ofNat n =>
      cases n with
      | zero => exact Nat.zero_le _
      | succ n =>
        show (m / (n + 1)) + 1 ≤ m + 1
        have := Nat.div_le_self m (n + 1)
        omega
    | negSucc n =>
      show (m + 1) / (n + 1) ≤ m + 1
      exact Nat.div_le_self _ _
theorem clr_bits {ts rs : List Int} {l : Int} {B : Nat} (bt : Bits B ts) (br : Bits B rs) : Bits (2 * B + 1) (clr ts rs l) := by
  intro x hx
  obtain ⟨k, hk⟩ := List.getElem?_of_mem hx
  unfold clr at hk
  rw [List.getElem?_zipWith] at hk
  cases e1 : ts.tail[k]? with
  | none => rw [e1] at hk; cases hk
  | some a =>
    cases e2 : rs.tail[k]? with
    | none => rw [e1, e2] at hk; cases hk
    | some b =>
      rw [e1, e2] at hk
      have ex : (ts.headD 0 * b - rs.headD 0 * a).fdiv l = x := Option.some.inj hk
      rw [← ex]
      refine Nat.lt_of_le_of_lt (fdiv_le _ _) ?_
      have ha : a.natAbs < 2 ^ B := bt a (List.mem_of_mem_tail (List.mem_of_getElem? e1))
      have hb : b.natAbs < 2 ^ B := br b (List.mem_of_mem_tail (List.mem_of_getElem? e2))
      have h1 : (ts.headD 0).natAbs < 2 ^ B := by
        cases ts with
        | nil => cases e1
        | cons t ts => exact bt t (List.mem_cons_self ..)
      have h2 : (rs.headD 0).natAbs < 2 ^ B := by
        cases rs with
        | nil => cases e2
        | cons t ts => exact br t (List.mem_cons_self ..)
      have p1 := wide_lt h1 hb
      have p2 := wide_lt h2 ha
      have e3 : 2 ^ (2 * B + 1) = 2 ^ (B + B) + 2 ^ (B + B) := by rw [show 2 * B + 1 = (B + B) + 1 by omega, Nat.pow_succ]; omega
      rw [e3]
      omega
/-- a square matrix of size n whose items have fewer than B bits -/
structure Sq (n B : Nat) (m : List (List Int)) : Prop where
  len : m.length = n
  row : ∀ r ∈ m, r.length = n
  bits : ∀ r ∈ m, Bits B r
theorem Sq.next {n B : Nat} {m : List (List Int)} (h : Sq (n + 1) B m) {k : Nat} (hk : k < n + 1) (l : Int) : Sq n (2 * B + 1) ((m.eraseIdx k).map fun r => clr (m.getD k []) r l) := by
  have hk' : k < m.length := by rw [h.len]; exact hk
  have eg : m.getD k [] = m[k] := by rw [List.getD_eq_getElem?_getD, List.getElem?_eq_getElem hk']; rfl
  have hm : m.getD k [] ∈ m := by rw [eg]; exact List.getElem_mem _
  refine ⟨?_, fun r hr => ?_, fun r hr => ?_⟩
  · rw [List.length_map, List.length_eraseIdx_of_lt hk', h.len]
    rfl
  · obtain ⟨r', hr', rfl⟩ := List.mem_map.mp hr
    have h1 := h.row r' (List.mem_of_mem_eraseIdx hr')
    have h2 := h.row _ hm
    rw [clr_len (by omega)]
    omega
  · obtain ⟨r', hr', rfl⟩ := List.mem_map.mp hr
    exact clr_bits (h.bits _ hm) (h.bits _ (List.mem_of_mem_eraseIdx hr'))
/-- the places that are kept -/
theorem filter_ne_range (n k : Nat) : (List.range n).filter (fun i => decide (i ≠ k)) = (List.range n).eraseIdx k := by
  induction n with
  | zero => simp
  | succ n ih =>
    rw [List.range_succ, List.filter_append, ih, List.filter_cons, List.filter_nil]
    by_cases h : n = k
    · subst h
      rw [if_neg (by simp), List.append_nil, List.eraseIdx_append_of_length_le (by simp), List.length_range, Nat.sub_self]
      simp [List.eraseIdx_of_length_le]
    · rw [if_pos (by simpa using h)]
      by_cases h2 : k < n
      · rw [List.eraseIdx_append_of_lt_length (by simpa using h2)]
      · rw [List.eraseIdx_of_length_le (by simp; omega), List.eraseIdx_of_length_le (by simp; omega)]
theorem map_range_get (m : List (List Int)) : (List.range m.length).map (fun i => m.getD i []) = m := by
  apply List.ext_getElem?
  intro i
  rw [List.getElem?_map]
  by_cases h : i < m.length
  · rw [List.getElem?_range h, List.getElem?_eq_getElem h]
    show some (m.getD i []) = _
    rw [List.getD_eq_getElem?_getD, List.getElem?_eq_getElem h]
    rfl
  · rw [List.getElem?_eq_none (by simpa using h), List.getElem?_eq_none (by omega)]
    rfl
theorem eraseIdx_map' {α β : Type} (f : α → β) : ∀ (l : List α) (k : Nat), (l.map f).eraseIdx k = (l.eraseIdx k).map f
  | [], _ => rfl
  | _ :: _, 0 => rfl
  | a :: l, k + 1 => congrArg (f a :: ·) (eraseIdx_map' f l k)
theorem erase_map_range {β : Type} (m : List (List Int)) (k : Nat) (f : List Int → β) : (m.eraseIdx k).map f = ((List.range m.length).eraseIdx k).map fun i => f (m.getD i []) := by
  have h : m.eraseIdx k = ((List.range m.length).eraseIdx k).map fun i => m.getD i [] := by
    rw [← eraseIdx_map', map_range_get]
  rw [h, List.map_map]
  rfl
theorem paired_map {α β γ : Type} {F : α → γ → Prop} {f : β → γ} : ∀ {l : List α} {is : List β}, Paired (fun i v => F v (f i)) is l → Paired F l (is.map f)
  | _, _, .nil => .nil
  | _, _, .cons r t => .cons r (paired_map t)
def sp_determinant_of (K : PySem.W.Frag) : Sp := fun vs H Q _ => ∃ v m n B, vs = [v] ∧ IRows K H v m ∧ Sq n B m ∧ n ≤ 5 ∧ B ≤ 1200000 ∧ ∀ H', Same H H' → Q (.int (bare n 1 1 m)) H'
theorem ok_determinant_of (T : Top K mg) (hN : base.NoSeer) (hT : P.given.tree = none) : FnOk P w K mg base CX0 42 T.a_determinant_of T.d_determinant_of ["rows"] (sp_determinant_of K) := by
  refine T.F_determinant_of.ok sc_determinant_of (fun vs H Q E h => ?_) (fun cdv A outer s H vs Q E hr h => ?_)
  · obtain ⟨v, m, n, B, rfl, _⟩ := h
    rfl
  · obtain ⟨v, m, n, B, rfl, hm, hsq, hn, hB, q⟩ := h
    have hr1 := hr
    refine ⟨_, (pss_cons (ps_set (i := 1) sc_determinant_of.nd rfl (by first | exact .inl rfl | exact .inr rfl) pe_int)
      (pss_cons (ps_set (i := 2) sc_determinant_of.nd rfl (by first | exact .inl rfl | exact .inr rfl) pe_int)
      (pss_cons (ps_while PassesOwn.never (pt_cmpR op_gt (pe_callB (lenS K rfl) (by rfl) T.z_len (by decide +kernel) (pa_cons (pv 0) pa_nil)) pe_int (nomark _))
      (pss_cons (ps_set (i := 3) sc_determinant_of.nd rfl (by first | exact .inl rfl | exact .inr rfl) (pe_c (cal_first_with_head T hN hT) hr (by decide) (by rfl) (pa_cons (pv 0) pa_nil)))
      (pss_cons (ps_if (pt_cmpR op_isN (pv 3) pe_non (nomark _))
      (pss_one (ps_ret pe_int))
      pss_nil)
      (C8.pss_cut (ps_if (pt_truth (pe_op op_odd (pv 3) pe_int) (by intro _; rfl))
      (pss_one (ps_set (i := 1) sc_determinant_of.nd rfl (by first | exact .inl rfl | exact .inr rfl) (pe_un un_neg (pv 1))))
      pss_nil)
      (pss_cons (ps_set (i := 4) sc_determinant_of.nd rfl (by first | exact .inl rfl | exact .inr rfl) (pe_ix (ixS K rfl) (pv 0) (pv 3) (fun _ _ => rfl)))
      (pss_cons (ps_setLc (i := 0) (own := [("k", 5), ("row", 6)]) (g := (gTup K 2 (gCons (gName 5) (gCons (gName 6) gNil)))) (by rfl) sc_determinant_of.nd rfl rfl (sw_true rfl rfl rfl (by decide +kernel)) (piEnum K rfl (by rfl) T.z_enumerate (pa_cons (pv 0) pa_nil)) ((by show BlkOk ["rows", "sign", "last", "at", "top", "k", "row"] (defScope s_determinant_of) _ _; exact blkOk_by (by decide +kernel))) (fun _ _ _ _ _ => (pg_tup rfl (pgs_cons (pg_name (i := 5) sc_determinant_of.nd rfl (by first | exact .inl rfl | exact .inr rfl)) (pgs_cons (pg_name (i := 6) sc_determinant_of.nd rfl (by first | exact .inl rfl | exact .inr rfl)) pgs_nil)))) (fun _ _ _ _ _ => (pts_one (pt_cmpR op_ne (pv 5) (pv 3) (nomark _)))) (fun _ _ _ _ _ => (pe_c (cal_cleared T hN hT) hr (by decide) (by rfl) (pa_cons (pv 4) (pa_cons (pv 6) (pa_cons (pv 2) pa_nil))))))
      (pss_one (ps_set (i := 2) sc_determinant_of.nd rfl (by first | exact .inl rfl | exact .inr rfl) (pe_ix (ixS K rfl) (pv 4) pe_int (fun _ _ => rfl))))))))))
      (pss_one (ps_ret (pe_op op_mulX (pv 1) (pv 2))))))), ?_⟩
    -- sign = 1; last = 1; while len(rows) > 0
    refine ⟨fun j σ H2 => ∃ v2 m2 s2 l2 B2 y3 y4 y5 y6, σ = [some v2, some (.int s2), some (.int l2), y3, y4, y5, y6] ∧ Same H H2 ∧ IRows K H2 v2 m2 ∧ Sq j B2 m2 ∧ j ≤ 5 ∧ (B2 + 1) * 2 ^ j ≤ 60000000 ∧ l2 ≠ 0 ∧ l2.natAbs < 2 ^ 60000000 ∧ s2.natAbs ≤ 1 ∧ bare j s2 l2 m2 = bare n 1 1 m,
      ⟨n, v, m, 1, 1, B, none, none, none, none, rfl, Same.refl H, hm, hsq, hn, ?_, by decide, ?_, by decide, rfl⟩, ?_⟩
    · have : 2 ^ n ≤ 2 ^ 5 := Nat.pow_le_pow_right (by decide) hn
      have e5 : (2 : Nat) ^ 5 = 32 := rfl
      have := Nat.mul_le_mul (show B + 1 ≤ 1200001 by omega) this
      omega
    · exact Nat.lt_of_lt_of_le (by decide : (1 : Int).natAbs < 2 ^ 1) (Nat.pow_le_pow_right (by decide) (by decide))
    · rintro j σ H2 ⟨v2, m2, s2, l2, B2, y3, y4, y5, y6, rfl, sm, hm2, sq2, hj, hB2, hl0, hlb, hs1, eb⟩
      obtain ⟨a2, ws, rfl, hs2, hp2⟩ := id hm2
      have lw := Paired.length hp2
      have lm := sq2.len
      refine ⟨_, rfl, a2, ws, rfl, hs2, _, _, rfl, rfl, _, rfl, ?_⟩
      cases j with
      | zero =>
        rw [decide_eq_false (by rw [lw, lm]; decide)]
        refine iteF ?_
        -- return sign * last
        refine ⟨_, rfl, _, rfl, _, _, rfl, rfl, ?_, ?_⟩
        · have h1 : s2.natAbs < 2 ^ 1 := by omega
          exact mulx_ok h1 hlb (by decide)
        · show Q (.int (s2 * l2)) H2
          rw [show s2 * l2 = bare n 1 1 m from eb]
          exact q _ sm
      | succ j =>
        rw [decide_eq_true (by rw [lw, lm]; omega)]
        refine iteT ?_
        refine ⟨fun σ' H' => ∃ v2 m2 s2 l2 B2 y3 y4 y5 y6, σ' = [some v2, some (.int s2), some (.int l2), y3, y4, y5, y6] ∧ Same H H' ∧ IRows K H' v2 m2 ∧ Sq j B2 m2 ∧ j ≤ 5 ∧ (B2 + 1) * 2 ^ j ≤ 60000000 ∧ l2 ≠ 0 ∧ l2.natAbs < 2 ^ 60000000 ∧ s2.natAbs ≤ 1 ∧ bare j s2 l2 m2 = bare n 1 1 m, fun σ' H' h => ⟨j, Nat.lt_succ_self _, h⟩, ?_⟩
        -- at = first_with_head(rows)
        refine ⟨_, rfl, _, m2, rfl, hm2, by omega, fun r hr e => ?_, fun H3 s3 => ?_⟩
        · have := sq2.row r hr
          rw [e] at this
          cases this
        have eb' : bare (j + 1) s2 l2 m2 = match firstHead m2 0 with
            | none => 0
            | some k => bare j (if k % 2 = 1 then -s2 else s2) ((m2.getD k []).headD 0) ((m2.eraseIdx k).map fun r => clr (m2.getD k []) r l2) := rfl
        rw [eb'] at eb
        cases ef : firstHead m2 0 with
        | none =>
          rw [ef] at eb
          refine ⟨_, rfl, rfl, _, rfl, ?_⟩
          rw [show decide (optV none = V.non) = true from decide_eq_true rfl]
          refine iteT ?_
          show Q (.int 0) H3
          rw [show (0 : Int) = bare n 1 1 m from eb]
          exact q _ (sm.trans s3)
        | some k =>
          rw [ef] at eb
          obtain ⟨_, hk, hh⟩ := firstHead_some ef
          rw [Nat.zero_add, lm] at hk
          rw [Nat.sub_zero] at hh
          have hk' : k < m2.length := by omega
          have eg : m2[k]? = some (m2.getD k []) := by rw [List.getD_eq_getElem?_getD, List.getElem?_eq_getElem hk']; rfl
          have hmk : m2.getD k [] ∈ m2 := List.mem_of_getElem? eg
          refine ⟨_, rfl, rfl, _, rfl, ?_⟩
          rw [show decide (optV (some k) = V.non) = false from decide_eq_false fun z => by cases z]
          refine iteF ?_
          -- if at & 1: sign = -sign
          refine ⟨fun σ' H' => H' = H3 ∧ σ' = [some (.ref a2), some (.int (if k % 2 = 1 then -s2 else s2)), some (.int l2), some (.int k), y4, y5, y6], ?_, ?_⟩
          · refine ⟨_, rfl, k, rfl, rfl, _, rfl, ?_⟩
            by_cases hk2 : k % 2 = 1
            · rw [show (((k % 2 : Nat) : Int) != 0) = true by rw [hk2]; rfl]
              refine iteT ?_
              refine ⟨_, rfl, _, rfl, rfl, ?_⟩
              rw [if_pos hk2]
              rfl
            · rw [show (((k % 2 : Nat) : Int) != 0) = false by rw [show k % 2 = 0 by omega]; rfl]
              refine iteF ?_
              refine ⟨rfl, ?_⟩
              rw [if_neg hk2]
              rfl
          · rintro σ' H' ⟨rfl, rfl⟩
            have hs3 := hs2.same s3
            have hm3 := hm2.same s3
            obtain ⟨_, ws3, e3, _, hp3⟩ := id hm3
            -- top = rows[at]
            obtain ⟨vt, et, hvt⟩ := Paired.getR (Paired.swap (L2.Paired.mapP hp2 fun _ _ => IRow.same s3)) eg
            refine ⟨_, rfl, _, rfl, ?_⟩
            refine rIx_seq hs3 (atI_nat (j := k) et) ?_
            -- rows = [cleared(top, row, last) for k, row in enumerate(rows) if k != at]
            refine ⟨_, rfl, a2, ws, rfl, hs3, fun J G W hG D hD => ?_⟩
            refine lc_gen W hD (by omega) (fun H4 s4 => hG H4 fun b _ o => s4 b o) (fun i => decide (i ≠ k)) (fun i v H4 => ∃ p, v = .ref p ∧ p ≠ D ∧ H4 p = some (.lst ((clr (m2.getD k []) (m2.getD i []) l2).map V.int))) ?_ ?_ ?_
            · rintro i v H4 H5 acc _ off ⟨p, rfl, hp, e⟩
              exact ⟨p, rfl, hp, off p _ hp e⟩
            · rintro i x H4 H4' acc Ko Kn hi s4 eD ⟨U, x1, x2, rfl, nU, rfl, e1, e2⟩ kk kn
              cases e1
              have sU : Same H4 (upd H4 U (.tup [.int (i : Nat), x2])) := same_upd nU
              obtain ⟨r, er, hr2⟩ := Paired.getR (L2.Paired.mapP hp2 fun _ _ => IRow.same (s3.trans (s4.trans sU))) e2
              have egr : m2.getD i [] = r := by rw [List.getD_eq_getElem?_getD, er]; rfl
              refine g_pair nU ⟨rfl, ?_⟩
              refine ⟨_, rfl, _, rfl, rfl, _, rfl, ?_⟩
              by_cases hik : i = k
              · subst hik
                rw [decide_eq_true rfl]
                refine iteF ?_
                exact kn (by simp) _ sU
              · have hik' : ¬ ((i : Int) = (k : Int)) := by omega
                rw [decide_eq_false fun z => hik' (V.int.inj z)]
                refine iteT ?_
                have hrm : r ∈ m2 := List.mem_of_getElem? er
                refine ⟨_, rfl, _, rfl, _, rfl, vt, x2, m2.getD k [], r, l2, B2, rfl, hvt.same (s4.trans sU), hr2, ?_, ?_, ?_, hl0, sq2.bits _ hmk, sq2.bits _ hrm, ?_, fun H5 p s5 np ep => ?_⟩
                · rw [sq2.row _ hmk, sq2.row _ hrm]
                · rw [sq2.row _ hmk]
                  exact Nat.succ_pos _
                · rw [sq2.row _ hmk]
                  omega
                · have : 1 ≤ 2 ^ (j + 1) := Nat.one_le_two_pow
                  have := Nat.mul_le_mul (Nat.le_refl (B2 + 1)) this
                  omega
                · refine kk (by simpa using hik) _ H5 (sU.trans s5) ⟨p, rfl, ?_, ?_⟩
                  · rintro rfl
                    rw [sU _ _ eD] at np
                    cases np
                  · rw [egr]
                    exact ep
            · intro H4 l s4 eD hpl
              rw [filter_ne_range] at hpl
              have hnew : IRows K H4 (.ref D) ((m2.eraseIdx k).map fun r => clr (m2.getD k []) r l2) := by
                refine ⟨D, l, rfl, .inl (.inl (.inl eD)), ?_⟩
                rw [erase_map_range, ← lw]
                refine paired_map (f := fun i => clr (m2.getD k []) (m2.getD i []) l2) (L2.Paired.mapP hpl fun i v h => ?_)
                obtain ⟨p, rfl, _, e⟩ := h
                exact ⟨p, rfl, .inl (.inl (.inl e))⟩
              -- last = top[0]
              have et0 : ∃ at_, vt = .ref at_ ∧ Gm.Seq K H4 at_ ((m2.getD k []).map V.int) := by
                obtain ⟨q1, q2, q3⟩ := hvt.same s4
                exact ⟨q1, q2, q3⟩
              obtain ⟨at_, rfl, hat⟩ := et0
              refine ⟨_, rfl, ?_⟩
              refine rIx_seq hat (v := .int ((m2.getD k []).headD 0)) ?_ ?_
              · cases ez : m2.getD k [] with
                | nil =>
                  have := sq2.row _ hmk
                  rw [ez] at this
                  cases this
                | cons z r' => exact atI_nat (j := 0) rfl
              · refine ⟨_, _, _, _, 2 * B2 + 1, _, _, _, _, rfl, sm.trans (s3.trans s4), hnew, Sq.next sq2 hk l2, by omega, ?_, hh, ?_, ?_, eb⟩
                · have e2 : (2 * B2 + 1 + 1) * 2 ^ j = (B2 + 1) * 2 ^ (j + 1) := by
                    rw [Nat.pow_succ, show 2 * B2 + 1 + 1 = (B2 + 1) * 2 by omega, Nat.mul_assoc, Nat.mul_comm 2 (2 ^ j)]
                  omega
                · have hb := sq2.bits _ hmk
                  have hB60 : B2 ≤ 60000000 := by
                    have : 1 ≤ 2 ^ (j + 1) := Nat.one_le_two_pow
                    have := Nat.mul_le_mul (Nat.le_refl (B2 + 1)) this
                    omega
                  refine Nat.lt_of_lt_of_le ?_ (Nat.pow_le_pow_right (by decide) hB60)
                  cases ez : m2.getD k [] with
                  | nil =>
                    have := sq2.row _ hmk
                    rw [ez] at this
                    cases this
                  | cons z r' =>
                    rw [ez] at hb
                    exact hb z (List.mem_cons_self ..)
                · by_cases hk2 : k % 2 = 1
                  · rw [if_pos hk2]
                    omega
                  · rw [if_neg hk2]
                    exact hs1
theorem cal_determinant_of (T : Top K mg) (hN : base.NoSeer) (hT : P.given.tree = none) : Cal P w K mg base 42 "determinant_of" (sp_determinant_of K) [] := ⟨⟨_, _, _, [], ok_determinant_of T hN hT, T.g_determinant_of, T.F_determinant_of.kp, T.b_determinant_of, .nil⟩⟩

end
end K02
namespace K02
open PySem PySem.Spec PyProof.Rows L2 Gm
open C8 (Cal Met Mak pe_c pe_mt pe_mt0 pe_mk)
section
variable {P : Program} {w : World} {K : PySem.W.Frag} {mg : Str → Option Value} {base : Heap}
/-! ### grids -/
theorem rw_ne : ¬ (("rows" : Str) = "width") := by decide +kernel
def flds (t : V) (w : Nat) : List (Str × V) := putF "width" (.int w) (putF "rows" t [])
theorem flds_rows (t : V) (w : Nat) : (flds t w).lookup ("rows" : Str) = some t := by
  unfold flds
  rw [lookup_putF, if_neg rw_ne, lookup_putF, if_pos rfl]
theorem flds_width (t : V) (w : Nat) : (flds t w).lookup ("width" : Str) = some (.int w) := by
  unfold flds
  rw [lookup_putF, if_pos rfl]
theorem flds_no (t : V) (w : Nat) {m : Str} (h1 : ¬ m = "width") (h2 : ¬ m = "rows") : (flds t w).lookup m = none := by
  unfold flds
  rw [lookup_putF, if_neg h1, lookup_putF, if_neg h2]
  all_goals rfl
/-- a Grid with the rows m, of width w -/
structure IsGrid (K : PySem.W.Frag) (C : Addr) (H : Hp) (v : V) (m : List (List Int)) (w : Nat) : Prop where
  ob : ∃ p dx t, v = .ref p ∧ H p = some (.ins C dx (flds t w)) ∧ TRows K H t m
  wd : ∀ r ∈ m, r.length = w
theorem IsGrid.same {K : PySem.W.Frag} {C : Addr} {H H' : Hp} {v : V} {m : List (List Int)} {w : Nat} (e : Same H H') (h : IsGrid K C H v m w) : IsGrid K C H' v m w :=
  let ⟨p, dx, t, ev, ho, ht⟩ := h.ob
  ⟨⟨p, dx, t, ev, e _ _ ho, ht.same e⟩, h.wd⟩
/-! ### checked_rows -/
theorem seq_ty {K : PySem.W.Frag} {H : Hp} {a : Addr} {xs : List V} (h : Gm.Seq K H a xs) : ∃ n, (n = "list" ∨ n = "tuple") ∧ TyX K H (.ref a) (.type n) := by
  rcases h with h | h
  · refine ⟨"list", .inl rfl, ?_⟩
    rcases h with (h | ⟨o, h⟩) | ⟨o, its, n, h, c, _⟩
    · exact .base (.lst h)
    · exact .base (.frz h)
    · exact .kList h c
  · refine ⟨"tuple", .inr rfl, ?_⟩
    rcases h with (h | ⟨o, h⟩) | ⟨o, its, n, h, c, _⟩
    · exact .base (.tup h)
    · exact .fTuple h
    · exact .kTuple h c
theorem kit_lt {K : PySem.W.Frag} {n : String} (h : n = "list" ∨ n = "tuple") : PySem.W.kitAny K (.type n) [.type "list", .type "tuple"] = some true := by
  rcases h with rfl | rfl
  · exact kitAny_cons (b := true) (kit_ty (by decide +kernel)) (fun e => by cases e) fun _ => rfl
  · exact kitAny_cons (b := false) (kit_ty (by decide +kernel)) (fun _ => kitAny_cons (b := true) (kit_ty (by decide +kernel)) (fun e => by cases e) fun _ => rfl) fun e => by cases e
def sp_checked_rows (K : PySem.W.Frag) : Sp := fun vs H Q _ => ∃ v m, vs = [v] ∧ IRows K H v m ∧ m.length ≤ 1000 ∧ (∀ r ∈ m, r.length ≤ 1000) ∧ ∀ v' H', Same H H' → TRows K H' v' m → Q v' H'
theorem ok_checked_rows (T : Top K mg) (hN : base.NoSeer) (hT : P.given.tree = none) : FnOk P w K mg base CX0 2 T.a_checked_rows T.d_checked_rows ["rows"] (sp_checked_rows K) := by
  refine T.F_checked_rows.ok sc_checked_rows (fun vs H Q E h => ?_) (fun cdv A outer s H vs Q E hr h => ?_)
  · obtain ⟨v, m, rfl, _⟩ := h
    rfl
  · obtain ⟨v, m, rfl, hm, hl, hw, q⟩ := h
    obtain ⟨a, ws, rfl, hs, hp⟩ := id hm
    have lw := Paired.length hp
    refine ⟨_, (pss_cons (ps_if (pt_not (pt_val (pe_callB (isiTK K rfl) (by rfl) T.z_isinstance (by decide +kernel) (pa_cons (pv 0) (pa_cons (pe_tup (pa_cons (pe_bltn (v := .ty "list") (by rfl) T.z_list (by decide +kernel) rfl) (pa_cons (pe_bltn (v := .ty "tuple") (by rfl) T.z_tuple (by decide +kernel) rfl) pa_nil))) pa_nil)))))
      (pss_one ps_never)
      pss_nil)
      (pss_cons (ps_for PassesOwn.never rfl (piS K rfl (pv 0)) (pg_name (i := 1) sc_checked_rows.nd rfl (by first | exact .inl rfl | exact .inr rfl))
      (pss_cons (ps_if (pt_not (pt_val (pe_callB (isiTK K rfl) (by rfl) T.z_isinstance (by decide +kernel) (pa_cons (pv 1) (pa_cons (pe_tup (pa_cons (pe_bltn (v := .ty "list") (by rfl) T.z_list (by decide +kernel) rfl) (pa_cons (pe_bltn (v := .ty "tuple") (by rfl) T.z_tuple (by decide +kernel) rfl) pa_nil))) pa_nil)))))
      (pss_one ps_never)
      pss_nil)
      (pss_one (ps_if (pt_not (pt_val (pe_callB (allK K rfl rfl) (by rfl) T.z_all (by decide +kernel) (pa_cons (pe_lc (own := [("item", 2)]) (g := (gName 2)) (by rfl) sc_checked_rows.nd (piS K rfl (pv 1)) ((by show BlkOk ["rows", "row", "item"] (defScope s_checked_rows) _ _; exact blkOk_by (by decide +kernel))) (fun _ _ _ _ _ => (pg_name (i := 2) sc_checked_rows.nd rfl (by first | exact .inl rfl | exact .inr rfl))) (fun _ _ _ _ _ => pts_nil) (fun _ _ _ _ _ => (pe_c (cal_is_integer T hN hT) hr (by decide) (by rfl) (pa_cons (pv 2) pa_nil)))) pa_nil))))
      (pss_one ps_never)
      pss_nil))))
      (pss_one (ps_ret (pe_callTy (tupK K rfl) (by rfl) T.z_tuple (by decide +kernel) (pa_cons (pe_lc (own := [("row", 1)]) (g := (gName 1)) (by rfl) sc_checked_rows.nd (piS K rfl (pv 0)) ((by show BlkOk ["rows", "row", "item"] (defScope s_checked_rows) _ _; exact blkOk_by (by decide +kernel))) (fun _ _ _ _ _ => (pg_name (i := 1) sc_checked_rows.nd rfl (by first | exact .inl rfl | exact .inr rfl))) (fun _ _ _ _ _ => pts_nil) (fun _ _ _ _ _ => (pe_callTy (tupK K rfl) (by rfl) T.z_tuple (by decide +kernel) (pa_cons (pv 1) pa_nil)))) pa_nil)))))), ?_⟩
    -- if not isinstance(rows, (list, tuple))
    refine ⟨_, rfl, by show 2 ≤ sizeLine; decide, fun p np => ?_⟩
    have s1 : Same H (upd H p (.tup [.ty "list", .ty "tuple"])) := same_upd np
    obtain ⟨n, hn, ty⟩ := seq_ty (hs.same s1)
    refine ⟨.ref a, p, [.ty "list", .ty "tuple"], _, [.type "list", .type "tuple"], true, rfl, upd_same, .cons (.ty _) (.cons (.ty _) .nil), ty, kit_lt hn, true, rfl, ?_⟩
    refine iteF ?_
    -- for row in rows
    refine ⟨_, rfl, a, ws, rfl, hs.same s1, fun J G W hG => ?_⟩
    generalize hH1 : upd H p (.tup [.ty "list", .ty "tuple"]) = H1 at s1 hG
    refine for_it W (fun i σ H2 => ∃ y1 y2, σ = [some (.ref a), y1, y2] ∧ Same H1 H2) ⟨none, none, rfl, Same.refl _⟩ (fun i σ H2 _ ⟨_, _, _, s2⟩ => hG _ fun b _ o => s2 b o) ?_ ?_
    · rintro i x σ H2 H2' hi ⟨y1, y2, rfl, s2⟩ ⟨rfl, ex⟩
      obtain ⟨r, er, b, rfl, hb⟩ := Paired.getR hp ex
      have hrm : r ∈ m := List.mem_of_getElem? er
      -- if not isinstance(row, (list, tuple))
      refine ⟨_, rfl, by show 2 ≤ sizeLine; decide, fun p2 np2 => ?_⟩
      have s3 : Same H2' (upd H2' p2 (.tup [.ty "list", .ty "tuple"])) := same_upd np2
      have hb3 := hb.same (s1.trans (s2.trans s3))
      obtain ⟨n2, hn2, ty2⟩ := seq_ty hb3
      refine ⟨.ref b, p2, [.ty "list", .ty "tuple"], _, [.type "list", .type "tuple"], true, rfl, upd_same, .cons (.ty _) (.cons (.ty _) .nil), ty2, kit_lt hn2, true, rfl, ?_⟩
      refine iteF ?_
      -- if not all([is_integer(item) for item in row])
      refine ⟨_, rfl, b, _, rfl, hb3, fun J2 G2 W2 hG2 D hD => ?_⟩
      refine lc_all W2 hD (by rw [List.length_map]; exact hw _ hrm) (fun H4 s4 => hG2 H4 fun b _ o => s4 b o) (fun _ v _ => v = .bl true) (fun _ _ _ _ _ _ _ h => h) ?_ gm_name ?_
      · rintro j y H4 H4' acc Ko hj s4 eD ⟨rfl, ey⟩ k
        obtain ⟨z, ez, rfl⟩ := ints_get ey
        refine ⟨rfl, ?_⟩
        exact ⟨_, rfl, z, rfl, k _ _ (Same.refl _) rfl⟩
      · intro H4 l s4 eD hl2
        refine ⟨D, List.replicate l.length true, rfl, .inl (.inl (by rw [← paired_true hl2]; exact eD)), true, by rw [all_true], ?_⟩
        refine iteF ?_
        exact ⟨_, _, rfl, s2.trans (s3.trans s4)⟩
    · rintro σ H2 ⟨y1, y2, rfl, s2⟩
      have sm := s1.trans s2
      -- return tuple([tuple(row) for row in rows])
      refine ⟨_, rfl, a, ws, rfl, hs.same sm, fun J2 G2 W2 hG2 D hD => ?_⟩
      refine lc_all W2 hD (by omega) (fun H4 s4 => hG2 H4 fun b _ o => s4 b o) (fun i v H4 => ∃ r, m[i]? = some r ∧ TRow K H4 v r) (fun i v H4 H5 acc e o ⟨r, er, h⟩ => ⟨r, er, TRow.off e o h⟩) ?_ gm_name ?_
      · rintro i x H4 H4' acc Ko hi s4 eD ⟨rfl, ex⟩ k
        obtain ⟨r, er, b, rfl, hb⟩ := Paired.getR hp ex
        refine ⟨rfl, ?_⟩
        refine ⟨_, rfl, b, r.map V.int, rfl, ?_⟩
        rcases hb.same (sm.trans s4) with hb' | hb'
        · refine .inl ⟨hb', fun t nt => ?_⟩
          exact k _ _ (same_upd nt) ⟨r, er, t, rfl, .inl (.inl upd_same)⟩
        · refine .inr ⟨hb', ?_⟩
          exact k _ _ (Same.refl _) ⟨r, er, b, rfl, hb'⟩
      · intro H4 l s4 eD hpl
        refine ⟨D, l, rfl, .inl ⟨.inl (.inl eD), fun t nt => ?_⟩⟩
        refine q _ _ (sm.trans (s4.trans (same_upd nt))) ⟨t, l, rfl, .inl (.inl upd_same), ?_⟩
        exact L2.Paired.mapP (paired_at (m := m) (by omega) hpl) fun _ _ => TRow.same (same_upd nt)
theorem cal_checked_rows (T : Top K mg) (hN : base.NoSeer) (hT : P.given.tree = none) : Cal P w K mg base 2 "checked_rows" (sp_checked_rows K) [] := ⟨⟨_, _, _, [], ok_checked_rows T hN hT, T.g_checked_rows, T.F_checked_rows.kp, T.b_checked_rows, .nil⟩⟩
/-! ### checked_width -/
def sp_checked_width (K : PySem.W.Frag) : Sp := fun vs H Q _ => ∃ (v : V) (m : List (List Int)) (w : Nat), vs = [v, .int w] ∧ TRows K H v m ∧ m.length ≤ 1000 ∧ (∀ r ∈ m, r.length = w) ∧ ∀ H', Same H H' → Q (.int w) H'
theorem ok_checked_width (T : Top K mg) (hN : base.NoSeer) (hT : P.given.tree = none) : FnOk P w K mg base CX0 2 T.a_checked_width T.d_checked_width ["rows", "width"] (sp_checked_width K) := by
  refine T.F_checked_width.ok sc_checked_width (fun vs H Q E h => ?_) (fun cdv A outer s H vs Q E hr h => ?_)
  · obtain ⟨v, m, w, rfl, _⟩ := h
    rfl
  · obtain ⟨v, m, w, rfl, hm, hl, hw, q⟩ := h
    obtain ⟨a, ws, rfl, hs, hp⟩ := id hm
    have lw := Paired.length hp
    refine ⟨_, (pss_cons (ps_if (pt_cmpR op_isN (pv 1) pe_non (nomark _))
      (pss_one (ps_set (i := 1) sc_checked_width.nd rfl (by first | exact .inl rfl | exact .inr rfl) (pe_ifExp (pt_cmpR op_gt (pe_callB (lenS K rfl) (by rfl) T.z_len (by decide +kernel) (pa_cons (pv 0) pa_nil)) pe_int (nomark _)) (pe_callB (lenS K rfl) (by rfl) T.z_len (by decide +kernel) (pa_cons (pe_ix (ixT K rfl) (pv 0) pe_int (fun _ _ => rfl)) pa_nil)) pe_int)))
      pss_nil)
      (pss_cons (ps_if (PW.pt (pw_or (pt_not (pt_val (pe_c (cal_is_integer T hN hT) hr (by decide) (by rfl) (pa_cons (pv 1) pa_nil)))) (pw_or1 (pt_cmpR op_lt (pv 1) pe_int (nomark _)))))
      (pss_one ps_never)
      pss_nil)
      (pss_cons (ps_if (pt_not (pt_val (pe_callB (allK K rfl rfl) (by rfl) T.z_all (by decide +kernel) (pa_cons (pe_lc (own := [("row", 2)]) (g := (gName 2)) (by rfl) sc_checked_width.nd (piS K rfl (pv 0)) ((by show BlkOk ["rows", "width", "row"] (defScope s_checked_width) _ _; exact blkOk_by (by decide +kernel))) (fun _ _ _ _ _ => (pg_name (i := 2) sc_checked_width.nd rfl (by first | exact .inl rfl | exact .inr rfl))) (fun _ _ _ _ _ => pts_nil) (fun _ _ _ _ _ => (pe_cmpR op_eq (pe_callB (lenS K rfl) (by rfl) T.z_len (by decide +kernel) (pa_cons (pv 2) pa_nil)) (pv 1) (nomark _)))) pa_nil))))
      (pss_one ps_never)
      pss_nil)
      (pss_one (ps_ret (pv 1)))))), ?_⟩
    -- if width is None
    refine ⟨_, rfl, rfl, _, rfl, ?_⟩
    rw [show decide (V.int (w : Int) = V.non) = false from decide_eq_false fun z => by cases z]
    refine iteF ?_
    -- if not is_integer(width) or width < 0
    refine ⟨_, rfl, _, rfl, true, rfl, iteF ⟨_, rfl, _, _, rfl, rfl, _, rfl, ?_⟩⟩
    rw [decide_eq_false (by omega)]
    refine iteF ?_
    -- if not all([len(row) == width for row in rows])
    refine ⟨_, rfl, a, ws, rfl, .inr hs, fun J2 G2 W2 hG2 D hD => ?_⟩
    refine lc_all W2 hD (by omega) (fun H4 s4 => hG2 H4 fun b _ o => s4 b o) (fun _ v _ => v = .bl true) (fun _ _ _ _ _ _ _ h => h) ?_ gm_name ?_
    · rintro i x H4 H4' acc Ko hi s4 eD ⟨rfl, ex⟩ k
      obtain ⟨r, er, b, rfl, hb⟩ := Paired.getR hp ex
      refine ⟨rfl, ?_⟩
      refine ⟨_, rfl, b, _, rfl, .inr (Same.seqT s4 hb), _, rfl, rfl, ?_⟩
      rw [List.length_map, hw r (List.mem_of_getElem? er), decide_eq_true rfl]
      exact k _ _ (Same.refl _) rfl
    · intro H4 l s4 eD hl2
      refine ⟨D, List.replicate l.length true, rfl, .inl (.inl (by rw [← paired_true hl2]; exact eD)), true, by rw [all_true], ?_⟩
      refine iteF ?_
      exact ⟨_, rfl, q _ s4⟩
theorem cal_checked_width (T : Top K mg) (hN : base.NoSeer) (hT : P.given.tree = none) : Cal P w K mg base 2 "checked_width" (sp_checked_width K) [] := ⟨⟨_, _, _, [], ok_checked_width T hN hT, T.g_checked_width, T.F_checked_width.kp, T.b_checked_width, .nil⟩⟩
/-! ### Grid.__init__ -/
def sp_Grid_init (K : PySem.W.Frag) (C : Addr) : Sp := fun vs H Q _ => ∃ (p dx : Addr) (v : V) (m : List (List Int)) (w : Nat), vs = [.ref p, v, .int w] ∧ H p = some (.ins C dx []) ∧ IRows K H v m ∧ m.length ≤ 1000 ∧ w ≤ 1000 ∧ (∀ r ∈ m, r.length = w) ∧
  ∀ t H', Off p H H' → H' p = some (.ins C dx (flds t w)) → TRows K H' t m → Q .non H'
theorem trows_off {K : PySem.W.Frag} {H H' : Hp} {p C dx : Addr} {fs : List (Str × V)} {t : V} {m : List (List Int)} (e : H p = some (.ins C dx fs)) (o : Off p H H') (h : TRows K H t m) : TRows K H' t m := by
  have f : ∀ {a : Addr} {xs : List V}, SqT K H a xs → SqT K H' a xs := fun {a xs} h => by
    rcases h with (h | ⟨u, h⟩) | h
    · exact .inl (.inl (o _ _ (ne_of h e (by intro z; cases z)) h))
    · exact .inl (.inr ⟨u, o _ _ (ne_of h e (by intro z; cases z)) h⟩)
    · exact .inr h
  obtain ⟨a, vs, rfl, hs, hp⟩ := h
  exact ⟨a, vs, rfl, f hs, L2.Paired.mapP hp fun v r ⟨b, e, h⟩ => ⟨b, e, f h⟩⟩
theorem ok_Grid_init (T : Top K mg) (hN : base.NoSeer) (hT : P.given.tree = none) : FnOk P w K mg base CX0 3 T.a_Grid_init T.d_Grid_init ["self", "rows", "width"] (sp_Grid_init K T.C_Grid) := by
  refine T.F_Grid_init.ok sc_Grid_init (fun vs H Q E h => ?_) (fun cdv A outer s H vs Q E hr h => ?_)
  · obtain ⟨p, dx, v, m, w, rfl, _⟩ := h
    rfl
  · obtain ⟨p, dx, v, m, w, rfl, hp, hm, hl, hw, hrw, q⟩ := h
    refine ⟨_, PSs.nox (pss_cons (ps_fld (pv 0) (pe_c (cal_checked_rows T hN hT) hr (by decide) (by rfl) (pa_cons (pv 1) pa_nil)) rfl)
      (pss_one (ps_fld (pv 0) (pe_c (cal_checked_width T hN hT) hr (by decide) (by rfl) (pa_cons (fldK K rfl (pv 0) rfl) (pa_cons (pv 2) pa_nil))) rfl))), ?_⟩
    refine ⟨_, rfl, v, m, rfl, hm, hl, fun r hr => by rw [hrw r hr]; exact hw, fun t H1 s1 ht => ?_⟩
    have hp1 := s1 _ _ hp
    refine ⟨_, rfl, p, T.C_Grid, dx, [], rfl, hp1, T.cl_Grid, T.n_rows, by show 0 < 1000; decide, ?_⟩
    refine ⟨_, rfl, p, T.C_Grid, dx, _, t, rfl, upd_same, T.cl_Grid, T.n_rows, ?_, ?_⟩
    · rw [lookup_putF, if_pos rfl]
    have ht2 : TRows K (upd H1 p (.ins T.C_Grid dx (putF "rows" t []))) t m := trows_off hp1 Off.upd ht
    refine ⟨_, rfl, t, m, w, rfl, ht2, hl, hrw, fun H2 s2 => ?_⟩
    have hp2 := s2 _ _ upd_same
    refine ⟨_, rfl, p, T.C_Grid, dx, _, rfl, hp2, T.cl_Grid, T.n_width, by show 1 < 1000; decide, ?_⟩
    refine q t _ (fun b o n e => ?_) upd_same (trows_off hp2 Off.upd (ht2.same s2))
    rw [upd_ne n]
    exact s2 _ _ (Off.upd _ _ n (s1 _ _ e))
theorem mak_Grid (T : Top K mg) (hN : base.NoSeer) (hT : P.given.tree = none) : Mak P w K mg base 3 "Grid" T.C_Grid (sp_Grid_init K T.C_Grid) [] := ⟨⟨_, _, _, [], T.mk_Grid, ok_Grid_init T hN hT, T.g_Grid, T.b_Grid_init, .nil⟩⟩
/-- what a call Grid(rows, width) asks and gives -/
theorem make_grid {K : PySem.W.Frag} {C : Addr} {H1 : Hp} {v : V} {m : List (List Int)} {w : Nat} {Q : VK} {E : XK} (hm : IRows K H1 v m) (hl : m.length ≤ 1000) (hw : w ≤ 1000) (hrw : ∀ r ∈ m, r.length = w) (q : ∀ g H', Same H1 H' → IsGrid K C H' g m w → Q g H') :
    ∀ x dx, H1 x = none → H1 dx = none → dx ≠ x → sp_Grid_init K C (.ref x :: ([v, .int w] ++ [])) (upd (upd H1 dx (.own x)) x (.ins C dx [])) (fun v H2 => v = .non ∧ Q (.ref x) H2) E := fun x dx nx nd ne => by
  have s0 : Same H1 (upd (upd H1 dx (.own x)) x (.ins C dx [])) := fun b o e => by
    rw [upd_ne (ne_of_none e nx), upd_ne (ne_of_none e nd)]
    exact e
  refine ⟨x, dx, v, m, w, rfl, upd_same, hm.same s0, hl, hw, hrw, fun t H' o ho ht => ⟨rfl, ?_⟩⟩
  exact q _ _ (fun b u e => o _ _ (ne_of_none e nx) (s0 _ _ e)) ⟨⟨x, dx, t, rfl, ho, ht⟩, hrw⟩

end
end K02
namespace K02
open PySem PySem.Spec PyProof.Rows L2 Gm
open C8 (Cal Met Mak pe_c pe_mt pe_mt0 pe_mk)
section
variable {P : Program} {w : World} {K : PySem.W.Frag} {mg : Str → Option Value} {base : Heap}
/-! ### dot -/
def dotI (xs ys : List Int) : Int := (List.zipWith (· * ·) xs ys).sum
def sp_dot (K : PySem.W.Frag) : Sp := fun vs H Q _ => ∃ v1 v2 xs ys B1 B2, vs = [v1, v2] ∧ TRow K H v1 xs ∧ TRow K H v2 ys ∧ xs.length = ys.length ∧ xs.length ≤ 1000 ∧ Bits B1 xs ∧ Bits B2 ys ∧ B1 + B2 ≤ 134217728 ∧ ∀ H', Same H H' → Q (.int (dotI xs ys)) H'
theorem ok_dot (T : Top K mg) (hN : base.NoSeer) (hT : P.given.tree = none) : FnOk P w K mg base CX0 1 T.a_dot T.d_dot ["a", "b"] (sp_dot K) := by
  refine T.F_dot.ok sc_dot (fun vs H Q E h => ?_) (fun cdv A outer s H vs Q E hr h => ?_)
  · obtain ⟨v1, v2, xs, ys, B1, B2, rfl, _⟩ := h
    rfl
  · obtain ⟨v1, v2, xs, ys, B1, B2, rfl, ⟨a, rfl, hx⟩, ⟨b, rfl, hy⟩, hl, hl2, bx, by', hB, q⟩ := h
    refine ⟨_, (pss_one (ps_ret (pe_callB (sumK K rfl rfl) (by rfl) T.z_sum (by decide +kernel) (pa_cons (pe_lc (own := [("x", 2), ("y", 3)]) (g := (gTup K 2 (gCons (gName 2) (gCons (gName 3) gNil)))) (by rfl) sc_dot.nd (RZ.pi_zipA (by rfl) T.z_zip (pa_cons (pv 0) (pa_cons (pv 1) pa_nil))) ((by show BlkOk ["a", "b", "x", "y"] (defScope s_dot) _ _; exact blkOk_by (by decide +kernel))) (fun _ _ _ _ _ => (pg_tup rfl (pgs_cons (pg_name (i := 2) sc_dot.nd rfl (by first | exact .inl rfl | exact .inr rfl)) (pgs_cons (pg_name (i := 3) sc_dot.nd rfl (by first | exact .inl rfl | exact .inr rfl)) pgs_nil)))) (fun _ _ _ _ _ => pts_nil) (fun _ _ _ _ _ => (pe_op op_mulX (pv 2) (pv 3)))) pa_nil)))), ?_⟩
    refine ⟨_, rfl, _, rfl, a, b, _, _, rfl, .inr ⟨hx, hy, fun D hD => ?_⟩⟩
    have W : Walk (RZ.ItzT K a b) xs.length (fun H => SqT K H a (xs.map V.int) ∧ SqT K H b (ys.map V.int)) (YPair (fun i => (xs.map V.int)[i]?) (fun i => (ys.map V.int)[i]?)) := walk_zipT (by rw [List.length_map, List.length_map, hl, Nat.min_self])
    refine lc_all W hD hl2 (fun H4 s4 => ⟨Same.seqT s4 hx, Same.seqT s4 hy⟩) (fun i v _ => ∃ z, (List.zipWith (· * ·) xs ys)[i]? = some z ∧ v = .int z) (fun _ _ _ _ _ _ _ h => h) ?_ gm_pair ?_
    · rintro i x H4 H4' acc Ko hi s4 eD ⟨U, x1, x2, rfl, nU, rfl, e1, e2⟩ k
      obtain ⟨z1, ez1, rfl⟩ := ints_get e1
      obtain ⟨z2, ez2, rfl⟩ := ints_get e2
      refine g_pair nU ⟨rfl, ?_⟩
      refine ⟨_, rfl, _, rfl, z1, z2, rfl, rfl, mulx_ok (bx.at ez1) (by'.at ez2) hB, ?_⟩
      refine k _ _ (same_upd nU) ⟨z1 * z2, ?_, rfl⟩
      rw [List.getElem?_zipWith, ez1, ez2]
    · intro H4 l s4 eD hpl
      have el := ints_list (by rw [List.length_zipWith, hl, Nat.min_self]) hpl
      refine ⟨D, List.zipWith (· * ·) xs ys, rfl, .inl (.inl (by rw [← el]; exact eD)), ?_⟩
      exact q _ s4
theorem cal_dot (T : Top K mg) (hN : base.NoSeer) (hT : P.given.tree = none) : Cal P w K mg base 1 "dot" (sp_dot K) [] := ⟨⟨_, _, _, [], ok_dot T hN hT, T.g_dot, T.F_dot.kp, T.b_dot, .nil⟩⟩
/-! ### the simple methods -/
def sp_Grid_len (K : PySem.W.Frag) (C : Addr) : Sp := fun vs H Q _ => ∃ v m w, vs = [v] ∧ IsGrid K C H v m w ∧ Q (.int m.length) H
theorem ok_Grid_len (T : Top K mg) (hN : base.NoSeer) (hT : P.given.tree = none) : FnOk P w K mg base CX0 1 T.a_Grid_len T.d_Grid_len ["self"] (sp_Grid_len K T.C_Grid) := by
  refine T.F_Grid_len.ok sc_Grid_len (fun vs H Q E h => ?_) (fun cdv A outer s H vs Q E hr h => ?_)
  · obtain ⟨v, m, w, rfl, _⟩ := h
    rfl
  · obtain ⟨v, m, w, rfl, ⟨⟨p, dx, t, rfl, ho, a, ws, rfl, hs, hp⟩, hw⟩, q⟩ := h
    refine ⟨_, (pss_one (ps_ret (pe_callB (lenS K rfl) (by rfl) T.z_len (by decide +kernel) (pa_cons (fldK K rfl (pv 0) rfl) pa_nil)))), ?_⟩
    refine ⟨_, rfl, p, T.C_Grid, dx, _, _, rfl, ho, T.cl_Grid, T.n_rows, flds_rows _ _, a, ws, rfl, .inr hs, ?_⟩
    rw [Paired.length hp]
    exact q
theorem met_Grid_len (T : Top K mg) (hN : base.NoSeer) (hT : P.given.tree = none) : Met P w K mg base 1 T.C_Grid "__len__" (sp_Grid_len K T.C_Grid) [] := ⟨⟨_, _, _, [], T.cl_Grid, T.m_Grid_len, ok_Grid_len T hN hT, T.b_Grid_len, .nil⟩⟩
def sp_Grid_is_square (K : PySem.W.Frag) (C : Addr) : Sp := fun vs H Q _ => ∃ v m w, vs = [v] ∧ IsGrid K C H v m w ∧ Q (.bl (decide (m.length = w))) H
theorem ok_Grid_is_square (T : Top K mg) (hN : base.NoSeer) (hT : P.given.tree = none) : FnOk P w K mg base CX0 1 T.a_Grid_is_square T.d_Grid_is_square ["self"] (sp_Grid_is_square K T.C_Grid) := by
  refine T.F_Grid_is_square.ok sc_Grid_is_square (fun vs H Q E h => ?_) (fun cdv A outer s H vs Q E hr h => ?_)
  · obtain ⟨v, m, w, rfl, _⟩ := h
    rfl
  · obtain ⟨v, m, w, rfl, ⟨⟨p, dx, t, rfl, ho, a, ws, rfl, hs, hp⟩, hw⟩, q⟩ := h
    refine ⟨_, (pss_one (ps_ret (pe_cmpR op_eq (pe_callB (lenS K rfl) (by rfl) T.z_len (by decide +kernel) (pa_cons (fldK K rfl (pv 0) rfl) pa_nil)) (fldK K rfl (pv 0) rfl) (nomark _)))), ?_⟩
    refine ⟨_, rfl, p, T.C_Grid, dx, _, _, rfl, ho, T.cl_Grid, T.n_rows, flds_rows _ _, a, ws, rfl, .inr hs, _, rfl, p, T.C_Grid, dx, _, _, rfl, ho, T.cl_Grid, T.n_width, flds_width _ _, rfl, ?_⟩
    have e : decide (V.int (ws.length : Int) = V.int (w : Int)) = decide (m.length = w) := by
      rw [Paired.length hp]
      by_cases h : m.length = w
      · rw [decide_eq_true h, decide_eq_true (by rw [h])]
      · rw [decide_eq_false h, decide_eq_false (fun z => h (by have := V.int.inj z; omega))]
    show Q (.bl (decide (V.int (ws.length : Int) = V.int (w : Int)))) H
    rw [e]
    exact q
theorem met_Grid_is_square (T : Top K mg) (hN : base.NoSeer) (hT : P.given.tree = none) : Met P w K mg base 1 T.C_Grid "is_square" (sp_Grid_is_square K T.C_Grid) [] := ⟨⟨_, _, _, [], T.cl_Grid, T.m_Grid_is_square, ok_Grid_is_square T hN hT, T.b_Grid_is_square, .nil⟩⟩
theorem m_is_square (t : V) (w : Nat) : (flds t w).lookup ("is_square" : Str) = none := flds_no t w (by decide +kernel) (by decide +kernel)
theorem m_transposed (t : V) (w : Nat) : (flds t w).lookup ("transposed" : Str) = none := flds_no t w (by decide +kernel) (by decide +kernel)
theorem m_determinant (t : V) (w : Nat) : (flds t w).lookup ("determinant" : Str) = none := flds_no t w (by decide +kernel) (by decide +kernel)
theorem m_adjugate (t : V) (w : Nat) : (flds t w).lookup ("adjugate" : Str) = none := flds_no t w (by decide +kernel) (by decide +kernel)
theorem m_is_unimodular (t : V) (w : Nat) : (flds t w).lookup ("is_unimodular" : Str) = none := flds_no t w (by decide +kernel) (by decide +kernel)
def sp_check_square (K : PySem.W.Frag) (C : Addr) : Sp := fun vs H Q _ => ∃ v m w, vs = [v] ∧ IsGrid K C H v m w ∧ m.length = w ∧ Q .non H
theorem ok_check_square (T : Top K mg) (hN : base.NoSeer) (hT : P.given.tree = none) : FnOk P w K mg base CX0 2 T.a_check_square T.d_check_square ["a"] (sp_check_square K T.C_Grid) := by
  refine T.F_check_square.ok sc_check_square (fun vs H Q E h => ?_) (fun cdv A outer s H vs Q E hr h => ?_)
  · obtain ⟨v, m, w, rfl, _⟩ := h
    rfl
  · obtain ⟨v, m, w, rfl, G, hw, q⟩ := h
    obtain ⟨⟨p, dx, t, rfl, ho, ht⟩, hrw⟩ := id G
    refine ⟨_, (pss_one (ps_if (pt_not (pt_val (pe_mt0 (met_Grid_is_square T hN hT) hr (by decide) (pv 0))))
      (pss_one ps_never)
      pss_nil)), ?_⟩
    refine ⟨_, rfl, p, dx, _, rfl, ho, m_is_square _ _, .ref p, m, w, rfl, G, _, rfl, ?_⟩
    rw [decide_eq_true hw]
    exact iteF q
theorem cal_check_square (T : Top K mg) (hN : base.NoSeer) (hT : P.given.tree = none) : Cal P w K mg base 2 "check_square" (sp_check_square K T.C_Grid) [] := ⟨⟨_, _, _, [], ok_check_square T hN hT, T.g_check_square, T.F_check_square.kp, T.b_check_square, .nil⟩⟩
def sp_Grid_determinant (K : PySem.W.Frag) (C : Addr) : Sp := fun vs H Q _ => ∃ v m n B, vs = [v] ∧ IsGrid K C H v m n ∧ Sq n B m ∧ n ≤ 5 ∧ B ≤ 1200000 ∧ ∀ H', Same H H' → Q (.int (bare n 1 1 m)) H'
theorem ok_Grid_determinant (T : Top K mg) (hN : base.NoSeer) (hT : P.given.tree = none) : FnOk P w K mg base CX0 43 T.a_Grid_determinant T.d_Grid_determinant ["self"] (sp_Grid_determinant K T.C_Grid) := by
  refine T.F_Grid_determinant.ok sc_Grid_determinant (fun vs H Q E h => ?_) (fun cdv A outer s H vs Q E hr h => ?_)
  · obtain ⟨v, m, n, B, rfl, _⟩ := h
    rfl
  · obtain ⟨v, m, n, B, rfl, G, sq, hn, hB, q⟩ := h
    obtain ⟨⟨p, dx, t, rfl, ho, ht⟩, hrw⟩ := id G
    refine ⟨_, (pss_cons (ps_expr (pe_c (cal_check_square T hN hT) hr (by decide) (by rfl) (pa_cons (pv 0) pa_nil)))
      (pss_one (ps_ret (pe_c (cal_determinant_of T hN hT) hr (by decide) (by rfl) (pa_cons (fldK K rfl (pv 0) rfl) pa_nil))))), ?_⟩
    refine ⟨_, rfl, .ref p, m, n, rfl, G, sq.len, ?_⟩
    exact ⟨_, rfl, p, T.C_Grid, dx, _, t, rfl, ho, T.cl_Grid, T.n_rows, flds_rows _ _, t, m, n, B, rfl, ht.rows, sq, hn, hB, q⟩
theorem met_Grid_determinant (T : Top K mg) (hN : base.NoSeer) (hT : P.given.tree = none) : Met P w K mg base 43 T.C_Grid "determinant" (sp_Grid_determinant K T.C_Grid) [] := ⟨⟨_, _, _, [], T.cl_Grid, T.m_Grid_determinant, ok_Grid_determinant T hN hT, T.b_Grid_determinant, .nil⟩⟩
def sp_Grid_is_unimodular (K : PySem.W.Frag) (C : Addr) : Sp := fun vs H Q _ => ∃ v m w, vs = [v] ∧ IsGrid K C H v m w ∧ ((m.length ≠ w ∧ ∀ H', Same H H' → Q (.bl false) H') ∨ ∃ B, Sq w B m ∧ w ≤ 5 ∧ B ≤ 1200000 ∧ ∀ H', Same H H' → Q (.bl (decide ((bare w 1 1 m).natAbs = 1))) H')
theorem ok_Grid_is_unimodular (T : Top K mg) (hN : base.NoSeer) (hT : P.given.tree = none) : FnOk P w K mg base CX0 44 T.a_Grid_is_unimodular T.d_Grid_is_unimodular ["self"] (sp_Grid_is_unimodular K T.C_Grid) := by
  refine T.F_Grid_is_unimodular.ok sc_Grid_is_unimodular (fun vs H Q E h => ?_) (fun cdv A outer s H vs Q E hr h => ?_)
  · obtain ⟨v, m, w, rfl, _⟩ := h
    rfl
  · obtain ⟨v, m, n, rfl, G, q⟩ := h
    obtain ⟨⟨p, dx, t, rfl, ho, ht⟩, hrw⟩ := id G
    refine ⟨_, (pss_one (ps_ret (pe_and (pe_mt0 (met_Grid_is_square T hN hT) hr (by decide) (pv 0)) (pe_one (pe_cmpR op_eq (pe_callB (call_abs) (by rfl) T.z_abs (by decide +kernel) (pa_cons (pe_mt0 (met_Grid_determinant T hN hT) hr (by decide) (pv 0)) pa_nil)) pe_int (nomark _)))))), ?_⟩
    refine ⟨_, rfl, p, dx, _, rfl, ho, m_is_square _ _, .ref p, m, n, rfl, G, _, rfl, ?_⟩
    rcases q with ⟨hne, q⟩ | ⟨B, sq, hn, hB, q⟩
    · rw [decide_eq_false hne]
      exact iteF (q _ (Same.refl _))
    · rw [decide_eq_true sq.len]
      refine iteT ?_
      refine ⟨_, rfl, p, dx, _, rfl, ho, m_determinant _ _, .ref p, m, n, B, rfl, G, sq, hn, hB, fun H2 s2 => ⟨_, rfl, rfl, ?_⟩⟩
      have e : decide (V.int (if bare n 1 1 m < 0 then -bare n 1 1 m else bare n 1 1 m) = V.int 1) = decide ((bare n 1 1 m).natAbs = 1) := by
        by_cases h : (bare n 1 1 m).natAbs = 1
        · rw [decide_eq_true h]
          refine decide_eq_true (congrArg V.int ?_)
          split <;> omega
        · rw [decide_eq_false h]
          refine decide_eq_false fun z => h ?_
          have := V.int.inj z
          split at this <;> omega
      show Q (.bl (decide (V.int (if bare n 1 1 m < 0 then -bare n 1 1 m else bare n 1 1 m) = V.int 1))) H2
      rw [e]
      exact q _ s2
theorem met_Grid_is_unimodular (T : Top K mg) (hN : base.NoSeer) (hT : P.given.tree = none) : Met P w K mg base 44 T.C_Grid "is_unimodular" (sp_Grid_is_unimodular K T.C_Grid) [] := ⟨⟨_, _, _, [], T.cl_Grid, T.m_Grid_is_unimodular, ok_Grid_is_unimodular T hN hT, T.b_Grid_is_unimodular, .nil⟩⟩

end
end K02
namespace K02
open PySem PySem.Spec PyProof.Rows L2 Gm
open C8 (Cal Met Mak pe_c pe_mt pe_mt0 pe_mk)
section
variable {P : Program} {w : World} {K : PySem.W.Frag} {mg : Str → Option Value} {base : Heap}
/-! ### transposed -/
def transp (m : List (List Int)) (w : Nat) : List (List Int) := (List.range w).map fun k => m.map fun r => r.getD k 0
theorem transp_len (m : List (List Int)) (w : Nat) : (transp m w).length = w := by
  unfold transp
  rw [List.length_map, List.length_range]
theorem transp_row {m : List (List Int)} {w : Nat} : ∀ r ∈ transp m w, r.length = m.length := fun r hr => by
  obtain ⟨k, _, rfl⟩ := List.mem_map.mp hr
  rw [List.length_map]
theorem transp_get {m : List (List Int)} {w k : Nat} (h : k < w) : (transp m w).getD k [] = m.map fun r => r.getD k 0 := by
  unfold transp
  rw [List.getD_eq_getElem?_getD, List.getElem?_map, List.getElem?_range h]
  rfl
def sp_Grid_transposed (K : PySem.W.Frag) (C : Addr) : Sp := fun vs H Q _ => ∃ v m w, vs = [v] ∧ IsGrid K C H v m w ∧ m.length ≤ 1000 ∧ w ≤ 1000 ∧ ∀ g H', Same H H' → IsGrid K C H' g (transp m w) m.length → Q g H'
theorem ok_Grid_transposed (T : Top K mg) (hN : base.NoSeer) (hT : P.given.tree = none) : FnOk P w K mg base CX0 5 T.a_Grid_transposed T.d_Grid_transposed ["self"] (sp_Grid_transposed K T.C_Grid) := by
  refine T.F_Grid_transposed.ok sc_Grid_transposed (fun vs H Q E h => ?_) (fun cdv A outer s H vs Q E hr h => ?_)
  · obtain ⟨v, m, w, rfl, _⟩ := h
    rfl
  · obtain ⟨v, m, n, rfl, G, hl, hw, q⟩ := h
    obtain ⟨⟨p, dx, t, rfl, ho, a, ws, rfl, hs, hp⟩, hrw⟩ := id G
    have lw := Paired.length hp
    refine ⟨_, (pss_cons (ps_set (i := 1) sc_Grid_transposed.nd rfl (by first | exact .inl rfl | exact .inr rfl) (pe_callTy (cr_range1) (by rfl) T.z_range (by decide +kernel) (pa_cons (fldK K rfl (pv 0) rfl) pa_nil)))
      (pss_one (ps_ret (pe_mk (mak_Grid T hN hT) hr (by decide) (by rfl) (pa_cons (pe_lc (own := [("k", 2)]) (g := (gName 2)) (by rfl) sc_Grid_transposed.nd (pi_rngv (pv 1)) ((by show BlkOk ["self", "places", "k", "row"] (defScope s_Grid_transposed) _ _; exact blkOk_by (by decide +kernel))) (fun _ _ _ _ _ => (pg_name (i := 2) sc_Grid_transposed.nd rfl (by first | exact .inl rfl | exact .inr rfl))) (fun _ _ _ _ _ => pts_nil) (fun _ _ _ _ _ => (pe_lc (own := [("row", 3)]) (g := (gName 3)) (by rfl) sc_Grid_transposed.nd (piS K rfl (fldK K rfl (pv 0) rfl)) ((by show BlkOk ["self", "places", "k", "row"] (relS _ (defScope s_Grid_transposed)) _ _; exact blkOk_by (by decide +kernel))) (fun _ _ _ _ _ => (pg_name (i := 3) sc_Grid_transposed.nd rfl (by first | exact .inl rfl | exact .inr rfl))) (fun _ _ _ _ _ => pts_nil) (fun _ _ _ _ _ => (pe_ix (ixT K rfl) (pv 3) (pv 2) (fun _ _ => rfl)))))) (pa_cons (pe_callB (lenS K rfl) (by rfl) T.z_len (by decide +kernel) (pa_cons (fldK K rfl (pv 0) rfl) pa_nil)) pa_nil)))))), ?_⟩
    -- places = range(self.width)
    refine ⟨_, rfl, p, T.C_Grid, dx, _, _, rfl, ho, T.cl_Grid, T.n_width, flds_width _ _, _, rfl, fun pr npr => ?_⟩
    have s1 : Same H (upd H pr (.rng 0 (n : Int))) := same_upd npr
    -- the outer comprehension
    refine ⟨_, rfl, pr, _, _, rfl, upd_same, ⟨by decide, by decide, by omega, by omega⟩, fun D hD => ?_⟩
    refine lc_all walk_range hD (by omega) (fun _ _ => trivial) (fun i v H4 => ∃ p, v = V.ref p ∧ p ≠ D ∧ H4 p = some (.lst (((transp m n).getD i []).map V.int))) lists_mono ?_ gm_name ?_
    · rintro i x H4 H4' acc Ko hi s4 eD ⟨rfl, rfl⟩ k
      have hi' : i < n := by omega
      refine ⟨rfl, ?_⟩
      -- the inner one
      have sm := s1.trans s4
      have ho4 := sm _ _ ho
      have hs4 := Same.seqT sm hs
      refine ⟨_, rfl, p, T.C_Grid, dx, _, _, rfl, ho4, T.cl_Grid, T.n_rows, flds_rows _ _, a, ws, rfl, .inr hs4, fun J2 G2 W2 hG2 D2 hD2 => ?_⟩
      refine lc_all W2 hD2 (by omega) (fun H5 s5 => hG2 H5 fun b _ o => s5 b o) (fun j v _ => ∃ z, ((transp m n).getD i [])[j]? = some z ∧ v = .int z) (fun _ _ _ _ _ _ _ h => h) ?_ gm_name ?_
      · rintro j y H5 H5' acc2 Ko2 hj s5 eD2 ⟨rfl, ey⟩ k2
        obtain ⟨r, er, b, rfl, hb⟩ := Paired.getR hp ey
        have hrl := hrw r (List.mem_of_getElem? er)
        refine ⟨rfl, ?_⟩
        refine ⟨_, rfl, _, rfl, b, _, _, _, rfl, rfl, Same.seqT (sm.trans s5) hb, at_of (j := i) (by omega) (ints_at (List.getElem?_eq_getElem (by omega))), ?_⟩
        refine k2 _ _ (Same.refl _) ⟨_, ?_, rfl⟩
        rw [transp_get hi', List.getElem?_map, er]
        show some (r.getD i 0) = some r[i]
        rw [List.getD_eq_getElem?_getD, List.getElem?_eq_getElem (by omega)]
        rfl
      · intro H5 l s5 eD2 hpl
        have el := ints_list (by rw [transp_get hi', List.length_map, lw]) hpl
        refine k _ _ s5 ⟨D2, rfl, ?_, by rw [← el]; exact eD2⟩
        rintro rfl
        rw [eD] at hD2
        cases hD2
    · intro H4 l s4 eD hpl
      have hrows := lists_rows (K := K) (m := transp m n) (by rw [transp_len]; omega) eD hpl
      have sm := s1.trans s4
      refine ⟨_, rfl, p, T.C_Grid, dx, _, _, rfl, sm _ _ ho, T.cl_Grid, T.n_rows, flds_rows _ _, a, ws, rfl, .inr (Same.seqT sm hs), ?_⟩
      rw [lw]
      exact make_grid hrows (by rw [transp_len]; exact hw) hl transp_row fun g H' s' G' => q g H' (sm.trans s') G'
theorem met_Grid_transposed (T : Top K mg) (hN : base.NoSeer) (hT : P.given.tree = none) : Met P w K mg base 5 T.C_Grid "transposed" (sp_Grid_transposed K T.C_Grid) [] := ⟨⟨_, _, _, [], T.cl_Grid, T.m_Grid_transposed, ok_Grid_transposed T hN hT, T.b_Grid_transposed, .nil⟩⟩
/-! ### a * b -/
def mulM (m1 m2 : List (List Int)) (w : Nat) : List (List Int) := m1.map fun r => (transp m2 w).map fun c => dotI r c
theorem mulM_len (m1 m2 : List (List Int)) (w : Nat) : (mulM m1 m2 w).length = m1.length := List.length_map ..
theorem mulM_row {m1 m2 : List (List Int)} {w : Nat} : ∀ r ∈ mulM m1 m2 w, r.length = w := fun r hr => by
  obtain ⟨k, _, rfl⟩ := List.mem_map.mp hr
  rw [List.length_map, transp_len]
theorem transp_bits {m : List (List Int)} {w B : Nat} (hw : ∀ r ∈ m, r.length = w) (hb : ∀ r ∈ m, Bits B r) : ∀ r ∈ transp m w, Bits B r := fun r hr x hx => by
  obtain ⟨k, hk, rfl⟩ := List.mem_map.mp hr
  obtain ⟨r', hr', rfl⟩ := List.mem_map.mp hx
  have hk' : k < r'.length := by rw [hw r' hr']; exact List.mem_range.mp hk
  rw [List.getD_eq_getElem?_getD, List.getElem?_eq_getElem hk']
  exact hb r' hr' _ (List.getElem_mem _)
def sp_Grid_mul (K : PySem.W.Frag) (C : Addr) : Sp := fun vs H Q _ => ∃ v1 m1 w1 v2 m2 w2 B1 B2, vs = [v1, v2] ∧ IsGrid K C H v1 m1 w1 ∧ IsGrid K C H v2 m2 w2 ∧ w1 = m2.length ∧ m1.length ≤ 1000 ∧ m2.length ≤ 1000 ∧ w2 ≤ 1000 ∧
  (∀ r ∈ m1, Bits B1 r) ∧ (∀ r ∈ m2, Bits B2 r) ∧ B1 + B2 ≤ 134217728 ∧ ∀ g H', Same H H' → IsGrid K C H' g (mulM m1 m2 w2) w2 → Q g H'
theorem ok_Grid_mul (T : Top K mg) (hN : base.NoSeer) (hT : P.given.tree = none) : FnOk P w K mg base CX0 6 T.a_Grid_mul T.d_Grid_mul ["self", "other"] (sp_Grid_mul K T.C_Grid) := by
  refine T.F_Grid_mul.ok sc_Grid_mul (fun vs H Q E h => ?_) (fun cdv A outer s H vs Q E hr h => ?_)
  · obtain ⟨v1, m1, w1, v2, m2, w2, B1, B2, rfl, _⟩ := h
    rfl
  · obtain ⟨v1, m1, w1, v2, m2, w2, B1, B2, rfl, G1, G2, hw, h1, h2, h3, b1, b2, hB, q⟩ := h
    obtain ⟨⟨p1, dx1, t1, rfl, ho1, a1, ws1, rfl, hs1, hp1⟩, hrw1⟩ := id G1
    obtain ⟨⟨p2, dx2, t2, rfl, ho2, a2, ws2, rfl, hs2, hp2⟩, hrw2⟩ := id G2
    have lw1 := Paired.length hp1
    have lw2 := Paired.length hp2
    refine ⟨_, (pss_cons (ps_if (pt_not (pt_val (pe_callB (isiK K rfl) (by rfl) T.z_isinstance (by decide +kernel) (pa_cons (pv 1) (pa_cons (pe_glob (by rfl) T.g_Grid (show RelV (.ref T.C_Grid) _ from rfl)) pa_nil)))))
      (pss_one ps_never)
      pss_nil)
      (pss_cons (ps_if (pt_cmpR op_ne (fldK K rfl (pv 0) rfl) (pe_callB (lenS K rfl) (by rfl) T.z_len (by decide +kernel) (pa_cons (fldK K rfl (pv 1) rfl) pa_nil)) (nomark _))
      (pss_one ps_never)
      pss_nil)
      (pss_cons (ps_set (i := 2) sc_Grid_mul.nd rfl (by first | exact .inl rfl | exact .inr rfl) (fldK K rfl (pe_mt0 (met_Grid_transposed T hN hT) hr (by decide) (pv 1)) rfl))
      (pss_one (ps_ret (pe_mk (mak_Grid T hN hT) hr (by decide) (by rfl) (pa_cons (pe_lc (own := [("row", 3)]) (g := (gName 3)) (by rfl) sc_Grid_mul.nd (piS K rfl (fldK K rfl (pv 0) rfl)) ((by show BlkOk ["self", "other", "columns", "row", "column"] (defScope s_Grid_mul) _ _; exact blkOk_by (by decide +kernel))) (fun _ _ _ _ _ => (pg_name (i := 3) sc_Grid_mul.nd rfl (by first | exact .inl rfl | exact .inr rfl))) (fun _ _ _ _ _ => pts_nil) (fun _ _ _ _ _ => (pe_lc (own := [("column", 4)]) (g := (gName 4)) (by rfl) sc_Grid_mul.nd (piS K rfl (pv 2)) ((by show BlkOk ["self", "other", "columns", "row", "column"] (relS _ (defScope s_Grid_mul)) _ _; exact blkOk_by (by decide +kernel))) (fun _ _ _ _ _ => (pg_name (i := 4) sc_Grid_mul.nd rfl (by first | exact .inl rfl | exact .inr rfl))) (fun _ _ _ _ _ => pts_nil) (fun _ _ _ _ _ => (pe_c (cal_dot T hN hT) hr (by decide) (by rfl) (pa_cons (pv 3) (pa_cons (pv 4) pa_nil))))))) (pa_cons (fldK K rfl (pv 1) rfl) pa_nil)))))))), ?_⟩
    -- if not isinstance(other, Grid)
    refine ⟨_, rfl, .ref p2, .ref T.C_Grid, _, _, true, rfl, .own _, .base (.ins ho2 T.cl_Grid T.kc_Grid T.kg_Grid T.kt_Grid T.km_Grid), ?_, true, rfl, ?_⟩
    · unfold PySem.W.kitOne
      rw [if_pos (beq_self_eq_true _)]
    refine iteF ?_
    -- if self.width != len(other.rows)
    refine ⟨_, rfl, p1, T.C_Grid, dx1, _, _, rfl, ho1, T.cl_Grid, T.n_width, flds_width _ _, _, rfl, p2, T.C_Grid, dx2, _, _, rfl, ho2, T.cl_Grid, T.n_rows, flds_rows _ _, a2, ws2, rfl, .inr hs2, rfl, _, rfl, ?_⟩
    refine iteNS (by rw [hw, lw2]) ?_
    -- columns = other.transposed().rows
    refine ⟨_, rfl, p2, dx2, _, rfl, ho2, m_transposed _ _, .ref p2, m2, w2, rfl, G2, h2, h3, fun g H1 s1 Gt => ?_⟩
    obtain ⟨⟨p3, dx3, t3, rfl, ho3, a3, ws3, rfl, hs3, hp3⟩, hrw3⟩ := id Gt
    have lw3 := Paired.length hp3
    rw [transp_len] at lw3
    refine ⟨p3, T.C_Grid, dx3, _, _, rfl, ho3, T.cl_Grid, T.n_rows, flds_rows _ _, ?_⟩
    -- the outer comprehension
    refine ⟨_, rfl, p1, T.C_Grid, dx1, _, _, rfl, s1 _ _ ho1, T.cl_Grid, T.n_rows, flds_rows _ _, a1, ws1, rfl, .inr (Same.seqT s1 hs1), fun J G W hG D hD => ?_⟩
    refine lc_all W hD (by omega) (fun H4 s4 => hG H4 fun b _ o => s4 b o) (fun i v H4 => ∃ p, v = V.ref p ∧ p ≠ D ∧ H4 p = some (.lst (((mulM m1 m2 w2).getD i []).map V.int))) lists_mono ?_ gm_name ?_
    · rintro i x H4 H4' acc Ko hi s4 eD ⟨rfl, ex⟩ k
      obtain ⟨r, er, hrt⟩ := Paired.getR hp1 ex
      have hrm := List.mem_of_getElem? er
      have eg : (mulM m1 m2 w2).getD i [] = (transp m2 w2).map fun c => dotI r c := by
        unfold mulM
        rw [List.getD_eq_getElem?_getD, List.getElem?_map, er]
        rfl
      refine ⟨rfl, ?_⟩
      refine ⟨_, rfl, a3, ws3, rfl, .inr (Same.seqT s4 hs3), fun J2 G2 W2 hG2 D2 hD2 => ?_⟩
      refine lc_all W2 hD2 (by omega) (fun H5 s5 => hG2 H5 fun b _ o => s5 b o) (fun j v _ => ∃ z, ((mulM m1 m2 w2).getD i [])[j]? = some z ∧ v = .int z) (fun _ _ _ _ _ _ _ h => h) ?_ gm_name ?_
      · rintro j y H5 H5' acc2 Ko2 hj s5 eD2 ⟨rfl, ey⟩ k2
        obtain ⟨c, ec, hct⟩ := Paired.getR hp3 ey
        have hcm := List.mem_of_getElem? ec
        refine ⟨rfl, ?_⟩
        refine ⟨_, rfl, _, rfl, x, y, r, c, B1, B2, rfl, hrt.same (s1.trans (s4.trans s5)), hct.same (s4.trans s5), ?_, ?_, b1 r hrm, transp_bits hrw2 b2 c hcm, hB, fun H6 s6 => ?_⟩
        · rw [hrw1 r hrm, hrw3 c hcm]
          exact hw
        · rw [hrw1 r hrm, hw]
          exact h2
        · refine k2 _ _ s6 ⟨dotI r c, ?_, rfl⟩
          rw [eg, List.getElem?_map, ec]
          rfl
      · intro H5 l s5 eD2 hpl
        have el := ints_list (by rw [eg, List.length_map, transp_len, lw3]) hpl
        refine k _ _ s5 ⟨D2, rfl, ?_, by rw [← el]; exact eD2⟩
        rintro rfl
        rw [eD] at hD2
        cases hD2
    · intro H4 l s4 eD hpl
      have hrows := lists_rows (K := K) (m := mulM m1 m2 w2) (by rw [mulM_len, lw1]) eD hpl
      have sm := s1.trans s4
      refine ⟨_, rfl, p2, T.C_Grid, dx2, _, _, rfl, sm _ _ ho2, T.cl_Grid, T.n_width, flds_width _ _, ?_⟩
      exact make_grid hrows (by rw [mulM_len]; exact h1) h3 mulM_row fun g H' s' G' => q g H' (sm.trans s') G'
/-! ### minors and the adjugate -/
def cutM (m : List (List Int)) (i j : Nat) : List (List Int) := (m.eraseIdx i).map fun r => r.eraseIdx j
theorem cutM_sq {n B : Nat} {m : List (List Int)} (h : Sq (n + 1) B m) {i j : Nat} (hi : i < n + 1) (hj : j < n + 1) : Sq n B (cutM m i j) := by
  have hi' : i < m.length := by rw [h.len]; exact hi
  refine ⟨?_, fun r hr => ?_, fun r hr => ?_⟩
  · unfold cutM
    rw [List.length_map, List.length_eraseIdx_of_lt hi', h.len]
    rfl
  · obtain ⟨r', hr', rfl⟩ := List.mem_map.mp hr
    have h1 := h.row r' (List.mem_of_mem_eraseIdx hr')
    rw [List.length_eraseIdx_of_lt (by omega), h1]
    rfl
  · obtain ⟨r', hr', rfl⟩ := List.mem_map.mp hr
    exact fun x hx => h.bits r' (List.mem_of_mem_eraseIdx hr') x (List.mem_of_mem_eraseIdx hx)
theorem erase_eq (l : List Int) (j : Nat) : l.take j ++ l.drop (j + 1) = l.eraseIdx j := (List.eraseIdx_eq_take_drop_succ l j).symm
def sp_minor (K : PySem.W.Frag) : Sp := fun vs H Q _ => ∃ (v : V) (m : List (List Int)) (n B i j : Nat), vs = [v, .int i, .int j] ∧ TRows K H v m ∧ Sq (n + 1) B m ∧ n ≤ 5 ∧ i < n + 1 ∧ j < n + 1 ∧ B ≤ 1200000 ∧ ∀ H', Same H H' → Q (.int (bare n 1 1 (cutM m i j))) H'
theorem ok_minor (T : Top K mg) (hN : base.NoSeer) (hT : P.given.tree = none) : FnOk P w K mg base CX0 43 T.a_minor T.d_minor ["rows", "i", "j"] (sp_minor K) := by
  refine T.F_minor.ok sc_minor (fun vs H Q E h => ?_) (fun cdv A outer s H vs Q E hr h => ?_)
  · obtain ⟨v, m, n, B, i, j, rfl, _⟩ := h
    rfl
  · obtain ⟨v, m, n, B, i, j, rfl, ⟨a, ws, rfl, hs, hp⟩, sq, hn, hi, hj, hB, q⟩ := h
    have lw := Paired.length hp
    refine ⟨_, (pss_cons (ps_setLc (i := 3) (own := [("k", 4), ("row", 5)]) (g := (gTup K 2 (gCons (gName 4) (gCons (gName 5) gNil)))) (by rfl) sc_minor.nd rfl rfl (sw_true rfl rfl rfl (by decide +kernel)) (piEnum K rfl (by rfl) T.z_enumerate (pa_cons (pv 0) pa_nil)) ((by show BlkOk ["rows", "i", "j", "kept", "k", "row"] (defScope s_minor) _ _; exact blkOk_by (by decide +kernel))) (fun _ _ _ _ _ => (pg_tup rfl (pgs_cons (pg_name (i := 4) sc_minor.nd rfl (by first | exact .inl rfl | exact .inr rfl)) (pgs_cons (pg_name (i := 5) sc_minor.nd rfl (by first | exact .inl rfl | exact .inr rfl)) pgs_nil)))) (fun _ _ _ _ _ => (pts_one (pt_cmpR op_ne (pv 4) (pv 1) (nomark _)))) (fun _ _ _ _ _ => (pe_op (catK K rfl) (pe_slice (slTK K rfl) (pv 5) po_none (po_some (pv 2))) (pe_slice (slTK K rfl) (pv 5) (po_some (pe_op op_add (pv 2) pe_int)) po_none))))
      (pss_one (ps_ret (pe_c (cal_determinant_of T hN hT) hr (by decide) (by rfl) (pa_cons (pv 3) pa_nil))))), ?_⟩
    refine ⟨_, rfl, a, ws, rfl, .inr hs, fun J G W hG D hD => ?_⟩
    refine lc_gen W hD (by rw [lw, sq.len]; omega) (fun H4 s4 => hG H4 fun b _ o => s4 b o) (fun k => decide (k ≠ i)) (fun k v H4 => TRow K H4 v ((m.getD k []).eraseIdx j)) (fun _ _ _ _ _ e o h => TRow.off e o h) ?_ ?_
    · rintro k x H4 H4' acc Ko Kn hk s4 eD ⟨U, x1, x2, rfl, nU, rfl, e1, e2⟩ kk kn
      cases e1
      have sU : Same H4 (upd H4 U (.tup [.int (k : Nat), x2])) := same_upd nU
      obtain ⟨r, er, b, rfl, hb⟩ := Paired.getR hp e2
      have hb' := Same.seqT (s4.trans sU) hb
      have hrl := sq.row r (List.mem_of_getElem? er)
      refine g_pair nU ⟨rfl, ?_⟩
      refine ⟨_, rfl, _, rfl, rfl, _, rfl, ?_⟩
      by_cases hik : k = i
      · subst hik
        rw [decide_eq_true rfl]
        refine iteF ?_
        exact kn (by simp) _ sU
      · have hik' : ¬ ((k : Int) = (i : Int)) := by omega
        rw [decide_eq_false fun z => hik' (V.int.inj z)]
        refine iteT ?_
        refine ⟨_, rfl, _, rfl, (j : Int), rfl, ?_⟩
        refine slA_take hb' j fun p1 H5 s5 t1 => ?_
        refine ⟨_, rfl, _, rfl, _, _, rfl, rfl, _, rfl, ?_⟩
        rw [show (j : Int) + 1 = ((j + 1 : Nat) : Int) by omega]
        refine (show rSlA K (.ref b) (some ((j + 1 : Nat) : Int)) none H5 (fun y H2 => rCatA K (.ref p1) y H2 Ko) from ?_)
        refine slA_drop (Same.seqT s5 hb') (j + 1) fun p2 H6 s6 t2 => ?_
        refine catA (Same.seqT s6 t1) t2 (by simp only [List.length_take, List.length_drop, List.length_map]; omega) fun p3 H7 s7 t3 => ?_
        refine kk (by simpa using hik) _ _ (sU.trans (s5.trans (s6.trans s7))) ⟨p3, rfl, ?_⟩
        rw [show m.getD k [] = r by rw [List.getD_eq_getElem?_getD, er]; rfl, ← erase_eq, List.map_append, List.map_take, List.map_drop]
        exact t3
    · intro H4 l s4 eD hpl
      rw [filter_ne_range] at hpl
      have hrows : IRows K H4 (.ref D) (cutM m i j) := by
        refine ⟨D, l, rfl, .inl (.inl (.inl eD)), ?_⟩
        unfold cutM
        rw [erase_map_range, ← lw]
        exact L2.Paired.mapP (paired_map (F := TRow K H4) (f := fun k => (m.getD k []).eraseIdx j) hpl) fun _ _ => TRow.row
      exact ⟨_, rfl, .ref D, cutM m i j, n, B, rfl, hrows, cutM_sq sq hi hj, hn, hB, fun H5 s5 => q _ (s4.trans s5)⟩
theorem cal_minor (T : Top K mg) (hN : base.NoSeer) (hT : P.given.tree = none) : Cal P w K mg base 43 "minor" (sp_minor K) [] := ⟨⟨_, _, _, [], ok_minor T hN hT, T.g_minor, T.F_minor.kp, T.b_minor, .nil⟩⟩
def sminor (n : Nat) (m : List (List Int)) (i j : Nat) : Int := if (i + j) % 2 = 1 then -bare n 1 1 (cutM m i j) else bare n 1 1 (cutM m i j)
def sp_signed_minor (K : PySem.W.Frag) : Sp := fun vs H Q _ => ∃ (v : V) (m : List (List Int)) (n B i j : Nat), vs = [v, .int i, .int j] ∧ TRows K H v m ∧ Sq (n + 1) B m ∧ n ≤ 5 ∧ i < n + 1 ∧ j < n + 1 ∧ B ≤ 1200000 ∧ ∀ H', Same H H' → Q (.int (sminor n m i j)) H'
theorem ok_signed_minor (T : Top K mg) (hN : base.NoSeer) (hT : P.given.tree = none) : FnOk P w K mg base CX0 44 T.a_signed_minor T.d_signed_minor ["rows", "i", "j"] (sp_signed_minor K) := by
  refine T.F_signed_minor.ok sc_signed_minor (fun vs H Q E h => ?_) (fun cdv A outer s H vs Q E hr h => ?_)
  · obtain ⟨v, m, n, B, i, j, rfl, _⟩ := h
    rfl
  · obtain ⟨v, m, n, B, i, j, rfl, ht, sq, hn, hi, hj, hB, q⟩ := h
    refine ⟨_, (pss_one (ps_ret (pe_ifExp (pt_truth (pe_op op_odd (pe_op op_add (pv 1) (pv 2)) pe_int) (by intro _; rfl)) (pe_un un_neg (pe_c (cal_minor T hN hT) hr (by decide) (by rfl) (pa_cons (pv 0) (pa_cons (pv 1) (pa_cons (pv 2) pa_nil))))) (pe_c (cal_minor T hN hT) hr (by decide) (by rfl) (pa_cons (pv 0) (pa_cons (pv 1) (pa_cons (pv 2) pa_nil))))))), ?_⟩
    refine ⟨_, rfl, _, rfl, _, _, rfl, rfl, i + j, by rw [show ((i + j : Nat) : Int) = (i : Int) + (j : Int) by omega], rfl, _, rfl, ?_⟩
    unfold sminor at q
    by_cases h2 : (i + j) % 2 = 1
    · rw [if_pos h2] at q
      rw [show ((((i + j) % 2 : Nat) : Int) != 0) = true by rw [h2]; rfl]
      refine iteT ?_
      exact ⟨_, rfl, _, rfl, _, rfl, v, m, n, B, i, j, rfl, ht, sq, hn, hi, hj, hB, fun H2 s2 => ⟨_, rfl, q _ s2⟩⟩
    · rw [if_neg h2] at q
      rw [show ((((i + j) % 2 : Nat) : Int) != 0) = false by rw [show (i + j) % 2 = 0 by omega]; rfl]
      refine iteF ?_
      exact ⟨_, rfl, _, rfl, _, rfl, v, m, n, B, i, j, rfl, ht, sq, hn, hi, hj, hB, q⟩
theorem cal_signed_minor (T : Top K mg) (hN : base.NoSeer) (hT : P.given.tree = none) : Cal P w K mg base 44 "signed_minor" (sp_signed_minor K) [] := ⟨⟨_, _, _, [], ok_signed_minor T hN hT, T.g_signed_minor, T.F_signed_minor.kp, T.b_signed_minor, .nil⟩⟩
/-- the adjugate, n the number of rows less 1 (0 rows: 0 too) -/
def adjM (n : Nat) (m : List (List Int)) : List (List Int) := (List.range m.length).map fun i => (List.range m.length).map fun j => sminor n m j i
theorem adjM_get {n i : Nat} {m : List (List Int)} (h : i < m.length) : (adjM n m).getD i [] = (List.range m.length).map fun j => sminor n m j i := by
  unfold adjM
  rw [List.getD_eq_getElem?_getD, List.getElem?_map, List.getElem?_range h]
  rfl
theorem adjM_len (n : Nat) (m : List (List Int)) : (adjM n m).length = m.length := by
  unfold adjM
  rw [List.length_map, List.length_range]
theorem adjM_row {n : Nat} {m : List (List Int)} : ∀ r ∈ adjM n m, r.length = m.length := fun r hr => by
  obtain ⟨k, _, rfl⟩ := List.mem_map.mp hr
  rw [List.length_map, List.length_range]
def sp_adjugate_of (K : PySem.W.Frag) : Sp := fun vs H Q _ => ∃ (v : V) (m : List (List Int)) (n B : Nat), vs = [v] ∧ TRows K H v m ∧ Sq n B m ∧ n ≤ 5 ∧ B ≤ 1200000 ∧ ∀ v' H', Same H H' → IRows K H' v' (adjM (n - 1) m) → Q v' H'
theorem ok_adjugate_of (T : Top K mg) (hN : base.NoSeer) (hT : P.given.tree = none) : FnOk P w K mg base CX0 45 T.a_adjugate_of T.d_adjugate_of ["rows"] (sp_adjugate_of K) := by
  refine T.F_adjugate_of.ok sc_adjugate_of (fun vs H Q E h => ?_) (fun cdv A outer s H vs Q E hr h => ?_)
  · obtain ⟨v, m, n, B, rfl, _⟩ := h
    rfl
  · obtain ⟨v, m, n, B, rfl, ht, sq, hn, hB, q⟩ := h
    obtain ⟨a, ws, rfl, hs, hp⟩ := id ht
    have lw := Paired.length hp
    refine ⟨_, (pss_cons (ps_set (i := 1) sc_adjugate_of.nd rfl (by first | exact .inl rfl | exact .inr rfl) (pe_callTy (cr_range1) (by rfl) T.z_range (by decide +kernel) (pa_cons (pe_callB (lenS K rfl) (by rfl) T.z_len (by decide +kernel) (pa_cons (pv 0) pa_nil)) pa_nil)))
      (pss_one (ps_ret (pe_lc (own := [("i", 2)]) (g := (gName 2)) (by rfl) sc_adjugate_of.nd (pi_rngv (pv 1)) ((by show BlkOk ["rows", "places", "i", "j"] (defScope s_adjugate_of) _ _; exact blkOk_by (by decide +kernel))) (fun _ _ _ _ _ => (pg_name (i := 2) sc_adjugate_of.nd rfl (by first | exact .inl rfl | exact .inr rfl))) (fun _ _ _ _ _ => pts_nil) (fun _ _ _ _ _ => (pe_lc (own := [("j", 3)]) (g := (gName 3)) (by rfl) sc_adjugate_of.nd (pi_rngv (pv 1)) ((by show BlkOk ["rows", "places", "i", "j"] (relS _ (defScope s_adjugate_of)) _ _; exact blkOk_by (by decide +kernel))) (fun _ _ _ _ _ => (pg_name (i := 3) sc_adjugate_of.nd rfl (by first | exact .inl rfl | exact .inr rfl))) (fun _ _ _ _ _ => pts_nil) (fun _ _ _ _ _ => (pe_c (cal_signed_minor T hN hT) hr (by decide) (by rfl) (pa_cons (pv 0) (pa_cons (pv 3) (pa_cons (pv 2) pa_nil))))))))))), ?_⟩
    refine ⟨_, rfl, a, ws, rfl, .inr hs, _, rfl, fun pr npr => ?_⟩
    have s1 : Same H (upd H pr (.rng 0 (ws.length : Int))) := same_upd npr
    have hlen := sq.len
    refine ⟨_, rfl, pr, _, _, rfl, upd_same, ⟨by decide, by decide, by omega, by omega⟩, fun D hD => ?_⟩
    refine lc_all walk_range hD (by omega) (fun _ _ => trivial) (fun i v H4 => ∃ p, v = V.ref p ∧ p ≠ D ∧ H4 p = some (.lst (((adjM (n - 1) m).getD i []).map V.int))) lists_mono ?_ gm_name ?_
    · rintro i x H4 H4' acc Ko hi s4 eD ⟨rfl, rfl⟩ k
      have hi' : i < m.length := by omega
      refine ⟨rfl, ?_⟩
      refine ⟨_, rfl, pr, _, _, rfl, s4 _ _ upd_same, ⟨by decide, by decide, by omega, by omega⟩, fun D2 hD2 => ?_⟩
      refine lc_all walk_range hD2 (by omega) (fun _ _ => trivial) (fun j v _ => ∃ z, ((adjM (n - 1) m).getD i [])[j]? = some z ∧ v = .int z) (fun _ _ _ _ _ _ _ h => h) ?_ gm_name ?_
      · rintro j y H5 H5' acc2 Ko2 hj s5 eD2 ⟨rfl, rfl⟩ k2
        have hj' : j < m.length := by omega
        refine ⟨rfl, ?_⟩
        refine ⟨_, rfl, _, rfl, _, rfl, .ref a, m, n - 1, B, j, i, ?_, ht.same (s1.trans (s4.trans s5)), by rw [show n - 1 + 1 = n by omega]; exact sq, by omega, by omega, by omega, hB, fun H6 s6 => ?_⟩
        · show [V.ref a, V.int (0 + (j : Int)), V.int (0 + (i : Int))] ++ [] = _
          rw [Int.zero_add, Int.zero_add]
          rfl
        · refine k2 _ _ s6 ⟨_, ?_, rfl⟩
          rw [adjM_get hi', List.getElem?_map, List.getElem?_range hj']
          rfl
      · intro H5 l s5 eD2 hpl
        have el := ints_list (by rw [adjM_get hi', List.length_map, List.length_range]; omega) hpl
        refine k _ _ s5 ⟨D2, rfl, ?_, by rw [← el]; exact eD2⟩
        rintro rfl
        rw [eD] at hD2
        cases hD2
    · intro H4 l s4 eD hpl
      exact q _ _ (s1.trans s4) (lists_rows (K := K) (m := adjM (n - 1) m) (by rw [adjM_len]; omega) eD hpl)
theorem cal_adjugate_of (T : Top K mg) (hN : base.NoSeer) (hT : P.given.tree = none) : Cal P w K mg base 45 "adjugate_of" (sp_adjugate_of K) [] := ⟨⟨_, _, _, [], ok_adjugate_of T hN hT, T.g_adjugate_of, T.F_adjugate_of.kp, T.b_adjugate_of, .nil⟩⟩
def sp_Grid_adjugate (K : PySem.W.Frag) (C : Addr) : Sp := fun vs H Q _ => ∃ v m n B, vs = [v] ∧ IsGrid K C H v m n ∧ Sq n B m ∧ n ≤ 5 ∧ B ≤ 1200000 ∧ ∀ g H', Same H H' → IsGrid K C H' g (adjM (n - 1) m) n → Q g H'
theorem ok_Grid_adjugate (T : Top K mg) (hN : base.NoSeer) (hT : P.given.tree = none) : FnOk P w K mg base CX0 46 T.a_Grid_adjugate T.d_Grid_adjugate ["self"] (sp_Grid_adjugate K T.C_Grid) := by
  refine T.F_Grid_adjugate.ok sc_Grid_adjugate (fun vs H Q E h => ?_) (fun cdv A outer s H vs Q E hr h => ?_)
  · obtain ⟨v, m, n, B, rfl, _⟩ := h
    rfl
  · obtain ⟨v, m, n, B, rfl, G, sq, hn, hB, q⟩ := h
    obtain ⟨⟨p, dx, t, rfl, ho, ht⟩, hrw⟩ := id G
    refine ⟨_, (pss_cons (ps_expr (pe_c (cal_check_square T hN hT) hr (by decide) (by rfl) (pa_cons (pv 0) pa_nil)))
      (pss_one (ps_ret (pe_mk (mak_Grid T hN hT) hr (by decide) (by rfl) (pa_cons (pe_c (cal_adjugate_of T hN hT) hr (by decide) (by rfl) (pa_cons (fldK K rfl (pv 0) rfl) pa_nil)) (pa_cons (fldK K rfl (pv 0) rfl) pa_nil)))))), ?_⟩
    refine ⟨_, rfl, .ref p, m, n, rfl, G, sq.len, ?_⟩
    refine ⟨_, rfl, p, T.C_Grid, dx, _, t, rfl, ho, T.cl_Grid, T.n_rows, flds_rows _ _, t, m, n, B, rfl, ht, sq, hn, hB, fun v' H1 s1 hv' => ?_⟩
    refine ⟨_, rfl, p, T.C_Grid, dx, _, _, rfl, s1 _ _ ho, T.cl_Grid, T.n_width, flds_width _ _, ?_⟩
    exact make_grid hv' (by rw [adjM_len, sq.len]; omega) (by omega) (fun r hr => by rw [adjM_row r hr, sq.len]) fun g H' s' G' => q g H' (s1.trans s') G'
theorem met_Grid_adjugate (T : Top K mg) (hN : base.NoSeer) (hT : P.given.tree = none) : Met P w K mg base 46 T.C_Grid "adjugate" (sp_Grid_adjugate K T.C_Grid) [] := ⟨⟨_, _, _, [], T.cl_Grid, T.m_Grid_adjugate, ok_Grid_adjugate T hN hT, T.b_Grid_adjugate, .nil⟩⟩

end
end K02
namespace K02
open PySem PySem.Spec PyProof.Rows L2 Gm
open C8 (Cal Met Mak pe_c pe_mt pe_mt0 pe_mk)
section
variable {P : Program} {w : World} {K : PySem.W.Frag} {mg : Str → Option Value} {base : Heap}
/-! ### the law's cells and draws -/
def sp_law_cell (K : PySem.W.Frag) : Sp := fun vs H Q _ => ∃ (a : Addr) (ns : List Int) (k : Nat), vs = [.ref a, .int k] ∧ SqL K H a (ns.map V.int) ∧ Q (.int (ns.getD k 0)) H
theorem ok_law_cell (T : Top K mg) (hN : base.NoSeer) (hT : P.given.tree = none) : FnOk P w K mg base CX0 1 T.a_law_cell T.d_law_cell ["script", "k"] (sp_law_cell K) := by
  refine T.F_law_cell.ok sc_law_cell (fun vs H Q E h => ?_) (fun cdv A outer s H vs Q E hr h => ?_)
  · obtain ⟨a, ns, k, rfl, _⟩ := h
    rfl
  · obtain ⟨a, ns, k, rfl, hs, q⟩ := h
    refine ⟨_, (pss_cons (ps_if (pt_cmpR op_lt (pv 1) (pe_callB (lenS K rfl) (by rfl) T.z_len (by decide +kernel) (pa_cons (pv 0) pa_nil)) (nomark _))
      (pss_one (ps_ret (pe_ix (ixL K rfl) (pv 0) (pv 1) (fun _ _ => rfl))))
      pss_nil)
      (pss_one (ps_ret pe_int))), ?_⟩
    refine ⟨_, rfl, _, rfl, a, _, rfl, .inl hs, _, _, rfl, rfl, _, rfl, ?_⟩
    rw [List.length_map]
    by_cases hk : k < ns.length
    · rw [decide_eq_true (by omega)]
      refine iteT ?_
      refine ⟨_, rfl, _, rfl, a, _, _, _, rfl, rfl, hs, atI_nat (ints_at (List.getElem?_eq_getElem hk)), ?_⟩
      rw [List.getD_eq_getElem?_getD, List.getElem?_eq_getElem hk] at q
      exact q
    · rw [decide_eq_false (by omega)]
      refine iteF ?_
      rw [List.getD_eq_getElem?_getD, List.getElem?_eq_none (by omega)] at q
      exact q
theorem cal_law_cell (T : Top K mg) (hN : base.NoSeer) (hT : P.given.tree = none) : Cal P w K mg base 1 "_law_cell" (sp_law_cell K) [] := ⟨⟨_, _, _, [], ok_law_cell T hN hT, T.g_law_cell, T.F_law_cell.kp, T.b_law_cell, .nil⟩⟩
/-- the state of the draws: two numbers, the first not negative -/
def StAt (H : Hp) (p : Addr) : Prop := ∃ s t : Int, H p = some (.lst [.int s, .int t]) ∧ 0 ≤ s
def sp_law_state (K : PySem.W.Frag) : Sp := fun vs H Q _ => ∃ (a : Addr) (ns : List Int), vs = [.ref a] ∧ SqL K H a (ns.map V.int) ∧ ns.length ≤ 63 ∧ ∀ p H', Same H H' → H p = none → StAt H' p → Q (.ref p) H'
theorem ok_law_state (T : Top K mg) (hN : base.NoSeer) (hT : P.given.tree = none) : FnOk P w K mg base CX0 1 T.a_law_state T.d_law_state ["script"] (sp_law_state K) := by
  refine T.F_law_state.ok sc_law_state (fun vs H Q E h => ?_) (fun cdv A outer s H vs Q E hr h => ?_)
  · obtain ⟨a, ns, rfl, _⟩ := h
    rfl
  · obtain ⟨a, ns, rfl, hs, hl, q⟩ := h
    refine ⟨_, (pss_cons (ps_set (i := 1) sc_law_state.nd rfl (by first | exact .inl rfl | exact .inr rfl) pe_int)
      (pss_cons (ps_set (i := 2) sc_law_state.nd rfl (by first | exact .inl rfl | exact .inr rfl) pe_int)
      (pss_cons (ps_for PassesOwn.never rfl (piS K rfl (pe_slice (slLK K rfl) (pv 0) po_none (po_some pe_int))) (pg_name (i := 3) sc_law_state.nd rfl (by first | exact .inl rfl | exact .inr rfl))
      (pss_cons (ps_set (i := 1) sc_law_state.nd rfl (by first | exact .inl rfl | exact .inr rfl) (pe_op op_add (pe_op op_mul (pv 1) pe_int) (pe_callB (call_abs) (by rfl) T.z_abs (by decide +kernel) (pa_cons (pv 3) pa_nil))))
      (pss_one (ps_set (i := 2) sc_law_state.nd rfl (by first | exact .inl rfl | exact .inr rfl) (pe_op op_mod (pe_callTy (call_int1) (by rfl) T.z_int (by decide +kernel) (pa_cons (pe_op op_add (pe_op op_mul (pv 2) pe_int) (pv 3)) pa_nil)) pe_int)))))
      (pss_one (ps_ret (pe_lst (pa_cons (pv 1) (pa_cons (pv 2) pa_nil)))))))), ?_⟩
    refine ⟨_, rfl, 63, rfl, a, _, rfl, hs, fun p np => ?_⟩
    have s1 : Same H (upd H p (.lst (cutV (ns.map V.int) none (some 63)))) := same_upd np
    have ec : cutV (ns.map V.int) none (some 63) = ns.map V.int := by
      rw [show (63 : Int) = ((63 : Nat) : Int) from rfl, cut_take, List.take_of_length_le (by rw [List.length_map]; exact hl)]
    rw [ec] at s1 ⊢
    refine ⟨p, _, rfl, .inl (.inl (.inl upd_same)), fun J G W hG => ?_⟩
    generalize hH1 : upd H p (.lst (ns.map V.int)) = H1 at s1 hG
    refine for_it W (fun i σ H2 => H2 = H1 ∧ ∃ s t y, σ = [some (.ref a), some (.int s), some (.int t), y] ∧ 0 ≤ s) ⟨rfl, 0, 1, none, rfl, Int.le_refl _⟩ (fun i σ H2 _ ⟨e, _⟩ => hG _ fun b _ o h => by rw [e]; exact h) ?_ ?_
    · rintro i x σ H2 H2' hi ⟨rfl, s, t, y, rfl, h0⟩ ⟨rfl, ex⟩
      obtain ⟨z, ez, rfl⟩ := ints_get ex
      refine ⟨_, rfl, _, _, rfl, rfl, .inr ⟨by decide, by decide⟩, _, rfl, z, rfl, _, _, rfl, rfl, ?_⟩
      refine ⟨_, rfl, _, _, rfl, rfl, .inr ⟨by decide, by decide⟩, _, rfl, _, _, rfl, rfl, .inl ⟨_, rfl, _, _, rfl, rfl, by show (0 : Int) < 2147483647; decide, ?_⟩⟩
      refine ⟨rfl, _, _, _, rfl, ?_⟩
      split <;> omega
    · rintro σ H2 ⟨rfl, s, t, y, rfl, h0⟩
      refine ⟨_, rfl, _, rfl, by show 2 ≤ sizeLine; decide, fun p2 np2 => ?_⟩
      exact q p2 _ (s1.trans (same_upd np2)) (Same.free s1 np2) ⟨s, t, upd_same, h0⟩
theorem cal_law_state (T : Top K mg) (hN : base.NoSeer) (hT : P.given.tree = none) : Cal P w K mg base 1 "_law_state" (sp_law_state K) [] := ⟨⟨_, _, _, [], ok_law_state T hN hT, T.g_law_state, T.F_law_state.kp, T.b_law_state, .nil⟩⟩
def sp_law_take : Sp := fun vs H Q _ => ∃ (p : Addr) (m : Nat), vs = [.ref p, .int m] ∧ StAt H p ∧ 0 < m ∧ m < 1000000 ∧ ∀ (r : Nat) H', r < m → Off p H H' → StAt H' p → Q (.int r) H'
theorem ok_law_take (T : Top K mg) (hN : base.NoSeer) (hT : P.given.tree = none) : FnOk P w K mg base CX0 1 T.a_law_take T.d_law_take ["state", "m"] sp_law_take := by
  refine T.F_law_take.ok sc_law_take (fun vs H Q E h => ?_) (fun cdv A outer s H vs Q E hr h => ?_)
  · obtain ⟨p, m, rfl, _⟩ := h
    rfl
  · obtain ⟨p, m, rfl, ⟨s0, t0, hp, h0⟩, hm0, hm1, q⟩ := h
    have hsq : SqL K H p [V.int s0, V.int t0] := .inl (.inl hp)
    refine ⟨_, (pss_cons (ps_if (pt_cmpR op_gt (pe_ix (ixL K rfl) (pv 0) pe_int (fun _ _ => rfl)) pe_int (nomark _))
      (pss_cons (ps_set (i := 2) sc_law_take.nd rfl (by first | exact .inl rfl | exact .inr rfl) (pe_op op_mod (pe_callTy (call_int1) (by rfl) T.z_int (by decide +kernel) (pa_cons (pe_ix (ixL K rfl) (pv 0) pe_int (fun _ _ => rfl)) pa_nil)) (pv 1)))
      (pss_cons (ps_asg (pe_op op_fdiv (pe_ix (ixL K rfl) (pv 0) pe_int (fun _ _ => rfl)) (pv 1)) (pg_sub (pv 0) pe_int set_list))
      (pss_one (ps_ret (pv 2)))))
      pss_nil)
      (pss_cons (ps_asg (pe_op op_mod (pe_callTy (call_int1) (by rfl) T.z_int (by decide +kernel) (pa_cons (pe_op op_add (pe_op op_mul (pe_ix (ixL K rfl) (pv 0) pe_int (fun _ _ => rfl)) pe_int) pe_int) pa_nil)) pe_int) (pg_sub (pv 0) pe_int set_list))
      (pss_one (ps_ret (pe_op op_mod (pe_callTy (call_int1) (by rfl) T.z_int (by decide +kernel) (pa_cons (pe_op op_fdiv (pe_ix (ixL K rfl) (pv 0) pe_int (fun _ _ => rfl)) pe_int) pa_nil)) (pv 1)))))), ?_⟩
    refine ⟨_, rfl, p, _, _, _, rfl, rfl, hsq, atI_nat (j := 0) rfl, _, _, rfl, rfl, _, rfl, ?_⟩
    have fin : ∀ x : Int, ∃ r : Nat, (r : Int) = x % (m : Int) ∧ r < m := fun x => by
      have h1 := Int.emod_nonneg x (b := (m : Int)) (by omega)
      have h2 := Int.emod_lt_of_pos x (b := (m : Int)) (by omega)
      exact ⟨(x % (m : Int)).toNat, by omega, by omega⟩
    by_cases hs : 0 < s0
    · rw [decide_eq_true hs]
      refine iteT ?_
      refine ⟨_, rfl, p, _, _, _, rfl, rfl, hsq, atI_nat (j := 0) rfl, .inl ⟨_, rfl, _, rfl, _, _, rfl, rfl, by omega, ?_⟩⟩
      refine ⟨_, rfl, p, _, _, _, rfl, rfl, hsq, atI_nat (j := 0) rfl, _, rfl, _, _, rfl, rfl, ⟨by omega, by omega⟩, _, rfl, p, _, _, 0, rfl, rfl, hp, ixN_nat (n := 2) (k := 0) (by decide), ?_⟩
      obtain ⟨r, er, hr2⟩ := fin s0
      refine ⟨_, rfl, ?_⟩
      show Q (.int (s0 % (m : Int))) _
      rw [← er]
      exact q r _ hr2 Off.upd ⟨_, t0, upd_same, Int.ediv_nonneg h0 (by omega)⟩
    · rw [decide_eq_false hs]
      refine iteF ?_
      refine ⟨_, rfl, p, _, _, _, rfl, rfl, hsq, atI_nat (j := 1) rfl, _, _, rfl, rfl, .inr ⟨by decide, by decide⟩, _, _, rfl, rfl, .inl ⟨_, rfl, _, _, rfl, rfl, by show (0 : Int) < 2147483647; decide, ?_⟩⟩
      refine ⟨_, rfl, p, _, _, 1, rfl, rfl, hp, ixN_nat (n := 2) (k := 1) (by decide), ?_⟩
      refine ⟨_, rfl, p, _, _, _, rfl, rfl, .inl (.inl upd_same), atI_nat (j := 1) rfl, _, _, rfl, rfl, ⟨by decide, by decide⟩, .inl ⟨_, rfl, _, rfl, _, _, rfl, rfl, by omega, ?_⟩⟩
      obtain ⟨r, er, hr2⟩ := fin ((t0 * 48271 + 11) % 2147483647 / 7)
      show Q (.int ((t0 * 48271 + 11) % 2147483647 / 7 % (m : Int))) _
      rw [← er]
      exact q r _ hr2 Off.upd ⟨s0, _, upd_same, h0⟩
theorem cal_law_take (T : Top K mg) (hN : base.NoSeer) (hT : P.given.tree = none) : Cal P w K mg base 1 "_law_take" sp_law_take [] := ⟨⟨_, _, _, [], ok_law_take T hN hT, T.g_law_take, T.F_law_take.kp, T.b_law_take, .nil⟩⟩

end
end K02
namespace K02
open PySem PySem.Spec PyProof.Rows L2 Gm
open C8 (Cal Met Mak pe_c pe_mt pe_mt0 pe_mk)
section
variable {P : Program} {w : World} {K : PySem.W.Frag} {mg : Str → Option Value} {base : Heap}
/-! ### _law_rows -/
def sp_law_rows (K : PySem.W.Frag) : Sp := fun vs H Q _ => ∃ (p : Addr) (h wd M : Nat), vs = [.ref p, .int h, .int wd, .int M] ∧ StAt H p ∧ h ≤ 100 ∧ wd ≤ 100 ∧ M ≤ 1000 ∧
  ∀ v m H', Off p H H' → StAt H' p → TRows K H' v m → m.length = h → (∀ r ∈ m, r.length = wd) → (∀ r ∈ m, ∀ x ∈ r, x.natAbs ≤ 2 * M) → Q v H'
theorem ok_law_rows (T : Top K mg) (hN : base.NoSeer) (hT : P.given.tree = none) : FnOk P w K mg base CX0 2 T.a_law_rows T.d_law_rows ["state", "height", "width", "most"] (sp_law_rows K) := by
  refine T.F_law_rows.ok sc_law_rows (fun vs H Q E h => ?_) (fun cdv A outer s H vs Q E hr h => ?_)
  · obtain ⟨p, h, wd, M, rfl, _⟩ := h
    rfl
  · obtain ⟨p, h, wd, M, rfl, st0, hh, hwd, hM, q⟩ := h
    refine ⟨_, (pss_cons (ps_set (i := 4) sc_law_rows.nd rfl (by first | exact .inl rfl | exact .inr rfl) (pe_lst pa_nil))
      (pss_cons (ps_for PassesOwn.never rfl (pi_range1 (by rfl) T.z_range (pa_cons (pv 1) pa_nil)) (pg_name (i := 5) sc_law_rows.nd rfl (by first | exact .inl rfl | exact .inr rfl))
      (pss_one (ps_expr (pe_bm PySem.F.plainAttrs_list PySem.F.slot_list_append PySem.F.type_list_append mt_append (pv 4) (pa_cons (pe_callTy (tupK K rfl) (by rfl) T.z_tuple (by decide +kernel) (pa_cons (pe_lc (own := [("k", 6)]) (g := (gName 6)) (by rfl) sc_law_rows.nd (pi_range1 (by rfl) T.z_range (pa_cons (pv 2) pa_nil)) ((by show BlkOk ["state", "height", "width", "most", "rows", "i", "k"] (defScope s_law_rows) _ _; exact blkOk_by (by decide +kernel))) (fun _ _ _ _ _ => (pg_name (i := 6) sc_law_rows.nd rfl (by first | exact .inl rfl | exact .inr rfl))) (fun _ _ _ _ _ => pts_nil) (fun _ _ _ _ _ => (pe_op op_sub (pe_c (cal_law_take T hN hT) hr (by decide) (by rfl) (pa_cons (pv 0) (pa_cons (pe_op op_add (pe_op op_mul pe_int (pv 3)) pe_int) pa_nil))) (pv 3)))) pa_nil)) pa_nil)))))
      (C8.pss_cut (ps_if (PW.pt (pw_and (pt_cmpR op_gt (pv 1) pe_int (nomark _)) (pw_and1 (pt_cmpR op_eq (pe_c (cal_law_take T hN hT) hr (by decide) (by rfl) (pa_cons (pv 0) (pa_cons pe_int pa_nil))) pe_int (nomark _)))))
      (pss_one (ps_asg (pe_callTy (tupK K rfl) (by rfl) T.z_tuple (by decide +kernel) (pa_cons (pe_lc (own := [("k", 6)]) (g := (gName 6)) (by rfl) sc_law_rows.nd (pi_range1 (by rfl) T.z_range (pa_cons (pv 2) pa_nil)) ((by show BlkOk ["state", "height", "width", "most", "rows", "i", "k"] (defScope s_law_rows) _ _; exact blkOk_by (by decide +kernel))) (fun _ _ _ _ _ => (pg_name (i := 6) sc_law_rows.nd rfl (by first | exact .inl rfl | exact .inr rfl))) (fun _ _ _ _ _ => pts_nil) (fun _ _ _ _ _ => (pe_op op_mul (pe_ix (ixT K rfl) (pe_ix (ixL K rfl) (pv 4) pe_int (fun _ _ => rfl)) (pv 6) (fun _ _ => rfl)) pe_int))) pa_nil)) (pg_sub (pv 4) (pe_op op_sub (pv 1) pe_int) set_list)))
      pss_nil)
      (pss_one (ps_ret (pe_callTy (tupK K rfl) (by rfl) T.z_tuple (by decide +kernel) (pa_cons (pv 4) pa_nil))))))), ?_⟩
    -- rows = []
    refine ⟨by show 0 ≤ sizeLine; decide, fun R nR => ?_⟩
    have hpR : p ≠ R := by
      obtain ⟨s0, t0, e, _⟩ := st0
      exact ne_of_none e nR
    -- for i in range(height)
    refine ⟨_, rfl, (h : Int), rfl, by omega, by omega, ?_⟩
    let Inv : Nat → Nat → Hp → Prop := fun bd i H2 => Off p H H2 ∧ StAt H2 p ∧ ∃ (l : List V) (m : List (List Int)), H2 R = some (.lst l) ∧ m.length = i ∧ Paired (TRow K H2) l m ∧ (∀ r ∈ m, r.length = wd) ∧ ∀ r ∈ m, ∀ x ∈ r, x.natAbs ≤ bd
    refine for_it walk_range (fun i σ H2 => ∃ y5 y6, σ = [some (.ref p), some (.int h), some (.int wd), some (.int M), some (.ref R), y5, y6] ∧ Inv M i H2) ⟨none, none, rfl, Same.off (same_upd nR), ?_, [], [], upd_same, rfl, .nil, fun r hr => by (cases hr), fun r hr => by (cases hr)⟩ (fun _ _ _ _ _ => trivial) ?_ ?_
    · obtain ⟨s0, t0, e, e2⟩ := st0
      exact ⟨s0, t0, by rw [upd_ne hpR]; exact e, e2⟩
    · rintro i x σ H2 H2' hi ⟨y5, y6, rfl, o2, st2, l, m, eR, lm, hp, hw, hb⟩ ⟨rfl, rfl⟩
      refine ⟨_, rfl, .inl ⟨rfl, _, .inl (.inl eR)⟩, ?_⟩
      refine ⟨_, rfl, (wd : Int), rfl, by omega, by omega, fun D hD => ?_⟩
      have hpD : p ≠ D := by
        obtain ⟨s0, t0, e, _⟩ := st2
        exact ne_of_none e hD
      have hRD : R ≠ D := ne_of_none eR hD
      refine lc_val walk_range (by omega) (fun H4 => Off p H2' H4 ∧ StAt H4 p) ⟨Same.off (same_upd hD), ?_⟩ (fun _ _ => trivial) ?_ (fun _ v => ∃ z : Int, v = V.int z ∧ z.natAbs ≤ M) ?_ gm_name ?_
      · obtain ⟨s0, t0, e, e2⟩ := st2
        exact ⟨s0, t0, by rw [upd_ne hpD]; exact e, e2⟩
      · rintro H4 acc acc' ⟨o4, s0, t0, e, e2⟩ _
        refine ⟨fun b u n h => ?_, s0, t0, by rw [upd_ne hpD]; exact e, e2⟩
        rw [upd_ne (ne_of_none h hD)]
        exact o4 _ _ n h
      · rintro k x H4 H4' acc Ko hk ⟨o4, st4⟩ eD ⟨rfl, rfl⟩ kk
        refine ⟨rfl, ?_⟩
        refine ⟨_, rfl, _, rfl, 2, (M : Int), rfl, rfl, .inl ⟨by decide, by decide⟩, _, _, rfl, rfl, p, 2 * M + 1, ?_, st4, by omega, by omega, fun r H5 hr5 o5 st5 => ?_⟩
        · show [V.ref p, V.int (2 * (M : Int) + 1)] ++ [] = _
          rw [show (2 * (M : Int) + 1) = ((2 * M + 1 : Nat) : Int) by omega]
          rfl
        · refine ⟨_, rfl, _, _, rfl, rfl, ?_⟩
          have eD5 : H5 D = some (.lst acc) := o5 _ _ (Ne.symm hpD) eD
          exact kk _ _ ⟨Off.trans o4 o5, st5⟩ eD5 ⟨(r : Int) - (M : Int), rfl, by omega⟩
      · rintro H4 l2 ⟨o4, st4⟩ eD hpl
        obtain ⟨zs, rfl, lz, bz⟩ := vals_small hpl
        rw [List.length_range] at lz
        refine ⟨D, _, rfl, .inl ⟨.inl (.inl eD), fun t nt => ?_⟩⟩
        have eR4 : (upd H4 t (.tup (zs.map V.int))) R = some (.lst l) := same_upd nt _ _ (o4 _ _ (Ne.symm hpR) eR)
        refine ⟨R, l, _, rfl, rfl, eR4, small1000 ?_, ?_⟩
        · have := Paired.length hp
          omega
        have htp : t ≠ p := by
          obtain ⟨s0, t0, e, _⟩ := st4
          exact (ne_of_none e nt).symm
        have htR : t ≠ R := by
          rintro rfl
          rw [o4 _ _ (Ne.symm hpR) eR] at nt
          cases nt
        refine ⟨_, _, rfl, fun b u n hb' => ?_, ?_, l ++ [.ref t], m ++ [zs], upd_same, by rw [List.length_append, lm]; rfl, ?_, ?_, ?_⟩
        · have h2 := o2 _ _ n hb'
          rw [upd_ne (ne_of_none hb' nR)]
          exact same_upd nt _ _ (o4 _ _ n h2)
        · obtain ⟨s0, t0, e, e2⟩ := st4
          exact ⟨s0, t0, by rw [upd_ne hpR, upd_ne (Ne.symm htp)]; exact e, e2⟩
        · have offR : ∀ {v ns}, TRow K H2' v ns → TRow K (upd (upd H4 t (.tup (zs.map V.int))) R (.lst (l ++ [.ref t]))) v ns := fun {v ns} r => by
            obtain ⟨s0, t0, e, _⟩ := id st2
            exact TRow.off eR4 Off.upd (TRow.same (same_upd nt) (TRow.off e o4 r))
          refine Paired.snoc (L2.Paired.mapP hp fun _ _ => offR) ⟨t, rfl, .inl (.inl ?_)⟩
          rw [upd_ne htR, upd_same]
        · intro r hr'
          rcases List.mem_append.mp hr' with h1 | h1
          · exact hw r h1
          · rw [List.mem_singleton] at h1
            subst h1
            omega
        · intro r hr' x hx
          rcases List.mem_append.mp hr' with h1 | h1
          · exact hb r h1 x hx
          · rw [List.mem_singleton] at h1
            subst h1
            exact bz x hx
    · rintro σ H2 ⟨y5, y6, rfl, o2, st2, l, m, eR, lm, hp, hw, hb⟩
      rw [show ((h : Int)).toNat = h from Int.toNat_natCast h] at lm
      -- if height > 1 and _law_take(state, 5) == 0
      refine ⟨fun σ H3 => ∃ y5 y6, σ = [some (.ref p), some (.int h), some (.int wd), some (.int M), some (.ref R), y5, y6] ∧ Inv (2 * M) h H3, ?_, ?_⟩
      · refine ⟨_, rfl, _, _, rfl, rfl, _, rfl, ?_⟩
        by_cases h1 : (1 : Int) < (h : Int)
        · rw [decide_eq_true h1]
          refine iteT ?_
          refine ⟨_, rfl, p, 5, rfl, st2, by decide, by decide, fun r H3 hr3 o3 st3 => ⟨rfl, _, rfl, ?_⟩⟩
          have eR3 : H3 R = some (.lst l) := o3 _ _ (Ne.symm hpR) eR
          have hp3 : Paired (TRow K H3) l m := L2.Paired.mapP hp fun _ _ r => by
            obtain ⟨s0, t0, e, _⟩ := id st2
            exact TRow.off e o3 r
          have oo := Off.trans o2 o3
          by_cases hr0 : V.int (r : Int) = V.int 0
          · rw [decide_eq_true hr0]
            refine iteT ?_
            -- rows[height - 1] = tuple([rows[0][k] * 2 for k in range(width)])
            refine ⟨_, rfl, (wd : Int), rfl, by omega, by omega, fun D hD => ?_⟩
            refine lc_val walk_range (by omega) (fun H4 => Same H3 H4) (same_upd hD) (fun _ _ => trivial) (fun H4 acc acc' a _ b u hb' => by rw [upd_ne (ne_of_none hb' hD)]; exact a _ _ hb') (fun _ v => ∃ z : Int, v = V.int z ∧ z.natAbs ≤ 2 * M) ?_ gm_name ?_
            · rintro k x H4 H4' acc Ko hk a4 eD ⟨rfl, rfl⟩ kk
              obtain ⟨r0, er0⟩ : ∃ r0, m[0]? = some r0 := ⟨m[0]'(by omega), List.getElem?_eq_getElem (by omega)⟩
              obtain ⟨v0, ev0, b0, rfl, hb0⟩ := Paired.getR (Paired.swap hp3) er0
              have hr0m := List.mem_of_getElem? er0
              have hrl := hw r0 hr0m
              have hk' : k < r0.length := by omega
              refine ⟨rfl, ?_⟩
              refine ⟨_, rfl, R, l, _, _, rfl, rfl, .inl (.inl (a4 _ _ eR3)), atI_nat (j := 0) ev0, _, rfl, b0, _, _, _, rfl, rfl, Same.seqT a4 hb0, at_of (j := k) (by omega) (ints_at (List.getElem?_eq_getElem hk')), _, _, rfl, rfl, .inr ⟨by decide, by decide⟩, ?_⟩
              refine kk _ _ a4 eD ⟨_, rfl, ?_⟩
              have := hb r0 hr0m _ (List.getElem_mem hk')
              omega
            · rintro H4 l2 a4 eD hpl
              obtain ⟨zs, rfl, lz, bz⟩ := vals_small hpl
              rw [List.length_range] at lz
              refine ⟨D, _, rfl, .inl ⟨.inl (.inl eD), fun t nt => ?_⟩⟩
              have eR4 : (upd H4 t (.tup (zs.map V.int))) R = some (.lst l) := same_upd nt _ _ (a4 _ _ eR3)
              have hll := Paired.length hp
              refine ⟨_, rfl, _, rfl, _, _, rfl, rfl, R, l, _, h - 1, rfl, rfl, eR4, ?_, ?_⟩
              · rw [show (h : Int) - 1 = ((h - 1 : Nat) : Int) by omega]
                exact ixN_nat (by omega)
              have htp : t ≠ p := by
                obtain ⟨s0, t0, e, _⟩ := st3
                rintro rfl
                rw [a4 _ _ e] at nt
                cases nt
              have htR : t ≠ R := by
                rintro rfl
                rw [a4 _ _ eR3] at nt
                cases nt
              refine ⟨_, _, rfl, fun b u n hb' => ?_, ?_, l.set (h - 1) (.ref t), m.set (h - 1) zs, upd_same, by rw [List.length_set, lm], ?_, ?_, ?_⟩
              · rw [upd_ne (ne_of_none hb' nR)]
                exact same_upd nt _ _ (a4 _ _ (oo _ _ n hb'))
              · obtain ⟨s0, t0, e, e2⟩ := st3
                exact ⟨s0, t0, by rw [upd_ne hpR]; exact same_upd nt _ _ (a4 _ _ e), e2⟩
              · refine paired_set ⟨t, rfl, .inl (.inl ?_)⟩ _ (L2.Paired.mapP hp3 fun _ _ r => TRow.off eR4 Off.upd (TRow.same (same_upd nt) (TRow.same a4 r)))
                rw [upd_ne htR, upd_same]
              · intro r hr'
                rcases List.mem_or_eq_of_mem_set hr' with h1 | h1
                · exact hw r h1
                · subst h1
                  omega
              · intro r hr' x hx
                rcases List.mem_or_eq_of_mem_set hr' with h1 | h1
                · have := hb r h1 x hx
                  omega
                · subst h1
                  exact bz x hx
          · rw [decide_eq_false hr0]
            refine iteF ?_
            exact ⟨_, _, rfl, oo, st3, l, m, eR3, lm, hp3, hw, fun r hr x hx => by have := hb r hr x hx; omega⟩
        · rw [decide_eq_false h1]
          refine iteF ?_
          show (if false = true then _ else _)
          refine iteF ?_
          exact ⟨_, _, rfl, o2, st2, l, m, eR, lm, hp, hw, fun r hr x hx => by have := hb r hr x hx; omega⟩
      · rintro σ3 H3 ⟨y5', y6', rfl, o3, st3, l3, m3, eR3, lm3, hp3, hw3, hb3⟩
        -- return tuple(rows)
        refine ⟨_, rfl, R, l3, rfl, .inl ⟨.inl (.inl eR3), fun t nt => ?_⟩⟩
        refine q _ m3 _ (Off.trans o3 (Same.off (same_upd nt))) ?_ ⟨t, l3, rfl, .inl (.inl upd_same), L2.Paired.mapP hp3 fun _ _ => TRow.same (same_upd nt)⟩ lm3 hw3 hb3
        obtain ⟨s0, t0, e, e2⟩ := st3
        exact ⟨s0, t0, same_upd nt _ _ e, e2⟩
theorem cal_law_rows (T : Top K mg) (hN : base.NoSeer) (hT : P.given.tree = none) : Cal P w K mg base 2 "_law_rows" (sp_law_rows K) [] := ⟨⟨_, _, _, [], ok_law_rows T hN hT, T.g_law_rows, T.F_law_rows.kp, T.b_law_rows, .nil⟩⟩

end
end K02
namespace K02
open PySem PySem.Spec PyProof.Rows L2 Gm
open C8 (Cal Met Mak pe_c pe_mt pe_mt0 pe_mk)
section
variable {P : Program} {w : World} {K : PySem.W.Frag} {mg : Str → Option Value} {base : Heap}
/-! ### _law_product -/
def sp_law_product (K : PySem.W.Frag) : Sp := fun vs H Q _ => ∃ (va vb : V) (a b : List (List Int)) (wd B1 B2 : Nat), vs = [va, vb, .int wd] ∧ TRows K H va a ∧ TRows K H vb b ∧ a.length ≤ 1000 ∧ b.length ≤ 1000 ∧ wd ≤ 1000 ∧ (∀ r ∈ a, r.length = b.length) ∧ (∀ r ∈ b, r.length = wd) ∧
  (∀ r ∈ a, Bits B1 r) ∧ (∀ r ∈ b, Bits B2 r) ∧ B1 + B2 ≤ 134217728 ∧ ∀ v' H', Same H H' → TRows K H' v' (mulM a b wd) → Q v' H'
theorem ok_law_product (T : Top K mg) (hN : base.NoSeer) (hT : P.given.tree = none) : FnOk P w K mg base CX0 1 T.a_law_product T.d_law_product ["a", "b", "width"] (sp_law_product K) := by
  refine T.F_law_product.ok sc_law_product (fun vs H Q E h => ?_) (fun cdv A outer s H vs Q E hr h => ?_)
  · obtain ⟨va, vb, a, b, wd, B1, B2, rfl, _⟩ := h
    rfl
  · obtain ⟨va, vb, a, b, wd, B1, B2, rfl, ⟨pa, wa, rfl, ha, hpa⟩, ⟨pb, wb, rfl, hb, hpb⟩, la, lb, hwd, ra, rb, ba, bb, hB, q⟩ := h
    have lwa := Paired.length hpa
    have lwb := Paired.length hpb
    refine ⟨_, (pss_cons (ps_set (i := 3) sc_law_product.nd rfl (by first | exact .inl rfl | exact .inr rfl) (pe_lst pa_nil))
      (pss_cons (ps_for PassesOwn.never rfl (piT K rfl (pv 0)) (pg_name (i := 4) sc_law_product.nd rfl (by first | exact .inl rfl | exact .inr rfl))
      (pss_cons (ps_set (i := 5) sc_law_product.nd rfl (by first | exact .inl rfl | exact .inr rfl) (pe_lst pa_nil))
      (pss_cons (ps_for PassesOwn.never rfl (pi_range1 (by rfl) T.z_range (pa_cons (pv 2) pa_nil)) (pg_name (i := 6) sc_law_product.nd rfl (by first | exact .inl rfl | exact .inr rfl))
      (pss_cons (ps_set (i := 7) sc_law_product.nd rfl (by first | exact .inl rfl | exact .inr rfl) pe_int)
      (pss_cons (ps_for PassesOwn.never rfl (pi_range1 (by rfl) T.z_range (pa_cons (pe_callB (lenS K rfl) (by rfl) T.z_len (by decide +kernel) (pa_cons (pv 1) pa_nil)) pa_nil)) (pg_name (i := 8) sc_law_product.nd rfl (by first | exact .inl rfl | exact .inr rfl))
      (pss_one (ps_set (i := 7) sc_law_product.nd rfl (by first | exact .inl rfl | exact .inr rfl) (pe_op op_add (pv 7) (pe_op op_mulX (pe_ix (ixT K rfl) (pv 4) (pv 8) (fun _ _ => rfl)) (pe_ix (ixT K rfl) (pe_ix (ixT K rfl) (pv 1) (pv 8) (fun _ _ => rfl)) (pv 6) (fun _ _ => rfl)))))))
      (pss_one (ps_expr (pe_bm PySem.F.plainAttrs_list PySem.F.slot_list_append PySem.F.type_list_append mt_append (pv 5) (pa_cons (pv 7) pa_nil)))))))
      (pss_one (ps_expr (pe_bm PySem.F.plainAttrs_list PySem.F.slot_list_append PySem.F.type_list_append mt_append (pv 3) (pa_cons (pe_callTy (tupK K rfl) (by rfl) T.z_tuple (by decide +kernel) (pa_cons (pv 5) pa_nil)) pa_nil)))))))
      (pss_one (ps_ret (pe_callTy (tupK K rfl) (by rfl) T.z_tuple (by decide +kernel) (pa_cons (pv 3) pa_nil)))))), ?_⟩
    -- out = []
    refine ⟨by show 0 ≤ sizeLine; decide, fun R nR => ?_⟩
    have s0 : Same H (upd H R (.lst [])) := same_upd nR
    refine ⟨_, rfl, pa, rfl, ⟨wa, Same.seqT s0 ha⟩, ?_⟩
    generalize hH0 : upd H R (.lst []) = H0 at s0
    have eR0 : H0 R = some (.lst []) := by rw [← hH0, upd_same]
    refine for_it (walk_tup (xs := wa)) (fun i σ H2 => ∃ y4 y5 y6 y7 y8, σ = [some (.ref pa), some (.ref pb), some (.int wd), some (.ref R), y4, y5, y6, y7, y8] ∧ Same H H2 ∧ ∃ l, H2 R = some (.lst l) ∧ Paired (TRow K H2) l ((mulM a b wd).take i)) ⟨_, _, _, _, _, rfl, s0, [], eR0, .nil⟩ (fun i σ H2 _ ⟨_, _, _, _, _, _, s2, _⟩ => Same.seqT s2 ha) ?_ ?_
    · rintro i x σ H2 H2' hi ⟨y4, y5, y6, y7, y8, rfl, s2, l, eR, hl⟩ ⟨rfl, ex⟩
      obtain ⟨r, er, pr, rfl, hpr⟩ := Paired.getR hpa ex
      have hrm := List.mem_of_getElem? er
      have hrl := ra r hrm
      have eg : (mulM a b wd)[i]? = some ((transp b wd).map fun c => dotI r c) := by
        unfold mulM
        rw [List.getElem?_map, er]
        rfl
      have hll := Paired.length hl
      rw [List.length_take] at hll
      -- line = []
      refine ⟨by show 0 ≤ sizeLine; decide, fun L nL => ?_⟩
      have s3 : Same H2' (upd H2' L (.lst [])) := same_upd nL
      -- for k in range(width)
      refine ⟨_, rfl, (wd : Int), rfl, by omega, by omega, ?_⟩
      refine for_it walk_range (fun k σ H3 => ∃ y6 y7 y8, σ = [some (.ref pa), some (.ref pb), some (.int wd), some (.ref R), some (.ref pr), some (.ref L), y6, y7, y8] ∧ Same H2' H3 ∧ H3 L = some (.lst ((((transp b wd).map fun c => dotI r c).take k).map V.int))) ⟨_, _, _, rfl, s3, by rw [upd_same]; rfl⟩ (fun _ _ _ _ _ => trivial) ?_ ?_
      · rintro k x σ H3 H3' hk ⟨y6, y7, y8, rfl, s4, eL⟩ ⟨rfl, rfl⟩
        have hk' : k < wd := by omega
        have sb := s2.trans s4
        -- for j in range(len(b))
        refine ⟨_, rfl, pb, _, rfl, .inr (Same.seqT sb hb), _, rfl, by omega, by omega, ?_⟩
        refine for_it walk_range (fun j σ H4 => ∃ y8, σ = [some (.ref pa), some (.ref pb), some (.int wd), some (.ref R), some (.ref pr), some (.ref L), some (.int (0 + (k : Int))), some (.int ((List.zipWith (· * ·) r (b.map fun r => r.getD k 0)).take j).sum), y8] ∧ H4 = H3') ⟨_, rfl, rfl⟩ (fun _ _ _ _ _ => trivial) ?_ ?_
        · rintro j x σ H4 H4' hj ⟨y8, rfl, rfl⟩ ⟨rfl, rfl⟩
          have hj' : j < b.length := by omega
          have hjr : j < r.length := by omega
          obtain ⟨vb, evb, qb, rfl, hqb⟩ := Paired.getR (Paired.swap hpb) (List.getElem?_eq_getElem hj')
          have hbl := rb _ (List.getElem_mem hj')
          have hkb : k < (b[j]).length := by omega
          refine ⟨_, rfl, _, rfl, _, rfl, pr, _, _, _, rfl, rfl, Same.seqT sb hpr, at_of (j := j) (by omega) (ints_at (List.getElem?_eq_getElem hjr)), ?_⟩
          refine ⟨_, rfl, _, rfl, pb, wb, _, _, rfl, rfl, Same.seqT sb hb, at_of (j := j) (by omega) evb, _, rfl, qb, _, _, _, rfl, rfl, Same.seqT sb hqb, at_of (j := k) (by omega) (ints_at (List.getElem?_eq_getElem hkb)), ?_⟩
          refine ⟨_, _, rfl, rfl, mulx_ok (ba r hrm _ (List.getElem_mem hjr)) (bb _ (List.getElem_mem hj') _ (List.getElem_mem hkb)) hB, _, _, rfl, rfl, ?_⟩
          refine ⟨some (.int (0 + (j : Int))), ?_, rfl⟩
          have ez : (List.zipWith (· * ·) r (b.map fun r => r.getD k 0))[j]? = some (r[j] * (b[j])[k]) := by
            rw [List.getElem?_zipWith, List.getElem?_eq_getElem hjr, List.getElem?_map, List.getElem?_eq_getElem hj']
            show some (r[j] * (b[j]).getD k 0) = _
            rw [List.getD_eq_getElem?_getD, List.getElem?_eq_getElem hkb]
            rfl
          rw [sum_take ez]
          rfl
        · rintro σ H4 ⟨y8, rfl, rfl⟩
          -- line.append(total)
          refine ⟨_, rfl, .inl ⟨rfl, _, .inl (.inl eL)⟩, _, rfl, L, _, _, rfl, rfl, eL, small1000 (by rw [List.length_map, List.length_take, List.length_map, transp_len]; omega), ?_⟩
          refine ⟨_, _, _, rfl, fun c o h => ?_, ?_⟩
          · rw [upd_ne (ne_of_none h nL)]
            exact s4 _ _ h
          · rw [upd_same, List.take_of_length_le (l := List.zipWith (· * ·) r (b.map fun r => r.getD k 0)) (by rw [List.length_zipWith, List.length_map]; omega)]
            have ec : ((transp b wd).map fun c => dotI r c)[k]? = some (dotI r (b.map fun r => r.getD k 0)) := by
              unfold transp
              rw [List.getElem?_map, List.getElem?_map, List.getElem?_range hk']
              rfl
            rw [List.take_add_one, ec, List.map_append]
            rfl
      · rintro σ H3 ⟨y6, y7, y8, rfl, s4, eL⟩
        rw [List.take_of_length_le (by rw [List.length_map, transp_len]; omega)] at eL
        -- out.append(tuple(line))
        have eR3 := s4 _ _ eR
        refine ⟨_, rfl, .inl ⟨rfl, _, .inl (.inl eR3)⟩, _, rfl, L, _, rfl, .inl ⟨.inl (.inl eL), fun t nt => ?_⟩⟩
        have st := same_upd (o := .tup (((transp b wd).map fun c => dotI r c).map V.int)) nt
        have eR4 := st _ _ eR3
        refine ⟨R, l, _, rfl, rfl, eR4, small1000 (by omega), ?_⟩
        have htR : t ≠ R := by
          rintro rfl
          rw [eR3] at nt
          cases nt
        refine ⟨_, _, _, _, _, rfl, fun c o h => ?_, l ++ [.ref t], upd_same, ?_⟩
        · rw [upd_ne (ne_of_none h nR)]
          exact st _ _ (s4 _ _ (s2 _ _ h))
        · rw [List.take_add_one, eg]
          refine Paired.snoc (L2.Paired.mapP hl fun _ _ r => TRow.off eR4 Off.upd (TRow.same st (TRow.same s4 r))) ⟨t, rfl, .inl (.inl ?_)⟩
          rw [upd_ne htR, upd_same]
    · rintro σ H2 ⟨y4, y5, y6, y7, y8, rfl, s2, l, eR, hl⟩
      refine ⟨_, rfl, R, l, rfl, .inl ⟨.inl (.inl eR), fun t nt => ?_⟩⟩
      refine q _ _ (s2.trans (same_upd nt)) ⟨t, l, rfl, .inl (.inl upd_same), ?_⟩
      rw [List.take_of_length_le (by rw [mulM_len]; omega)] at hl
      exact L2.Paired.mapP hl fun _ _ => TRow.same (same_upd nt)
theorem cal_law_product (T : Top K mg) (hN : base.NoSeer) (hT : P.given.tree = none) : Cal P w K mg base 1 "_law_product" (sp_law_product K) [] := ⟨⟨_, _, _, [], ok_law_product T hN hT, T.g_law_product, T.F_law_product.kp, T.b_law_product, .nil⟩⟩
/-! ### _law_is_rows -/
def sp_law_is_rows (K : PySem.W.Frag) (C : Addr) : Sp := fun vs H Q _ => ∃ (v : V) (m : List (List Int)) (n wd : Nat), vs = [v, .int n, .int wd] ∧ IsGrid K C H v m wd ∧ m.length = n ∧ n ≤ 1000 ∧ Q (.bl true) H
theorem row_ty {K : PySem.W.Frag} {H : Hp} {a : Addr} {xs : List V} (h : SqT K H a xs) : TyX K H (.ref a) (.type "tuple") := by
  rcases h with (h | ⟨o, h⟩) | ⟨o, its, n, h, c, _⟩
  · exact .base (.tup h)
  · exact .fTuple h
  · exact .kTuple h c
theorem ok_law_is_rows (T : Top K mg) (hN : base.NoSeer) (hT : P.given.tree = none) : FnOk P w K mg base CX0 3 T.a_law_is_rows T.d_law_is_rows ["value", "height", "width"] (sp_law_is_rows K T.C_Grid) := by
  refine T.F_law_is_rows.ok sc_law_is_rows (fun vs H Q E h => ?_) (fun cdv A outer s H vs Q E hr h => ?_)
  · obtain ⟨v, m, n, wd, rfl, _⟩ := h
    rfl
  · obtain ⟨v, m, n, wd, rfl, G, hl, hn, q⟩ := h
    obtain ⟨⟨p, dx, t, rfl, ho, a, ws, rfl, hs, hp⟩, hrw⟩ := id G
    have lw := Paired.length hp
    refine ⟨_, (pss_cons (ps_if (PW.pt (pw_or (pt_not (pt_val (pe_callB (isiK K rfl) (by rfl) T.z_isinstance (by decide +kernel) (pa_cons (pv 0) (pa_cons (pe_glob (by rfl) T.g_Grid (show RelV (.ref T.C_Grid) _ from rfl)) pa_nil))))) (pw_or (pt_not (pt_val (pe_callB (isiK K rfl) (by rfl) T.z_isinstance (by decide +kernel) (pa_cons (fldK K rfl (pv 0) rfl) (pa_cons (pe_bltn (v := .ty "tuple") (by rfl) T.z_tuple (by decide +kernel) rfl) pa_nil))))) (pw_or (pt_cmpR op_ne (fldK K rfl (pv 0) rfl) (pv 2) (nomark _)) (pw_or1 (pt_cmpR op_ne (pe_callB (call_ownLen (E := L2.E0) (T.m_Grid_len.at_) T.m_Grid_len.fn (ok_Grid_len T hN hT) (hr.mono (by decide)) T.b_Grid_len (fun _ _ _ _ h => h.elim)) (by rfl) T.z_len (by decide +kernel) (pa_cons (pv 0) pa_nil)) (pv 1) (nomark _)))))))
      (pss_one (ps_ret pe_bl))
      pss_nil)
      (pss_cons (ps_for PassesOwn.never rfl (piS K rfl (fldK K rfl (pv 0) rfl)) (pg_name (i := 3) sc_law_is_rows.nd rfl (by first | exact .inl rfl | exact .inr rfl))
      (pss_cons (ps_if (PW.pt (pw_or (pt_not (pt_val (pe_callB (isiK K rfl) (by rfl) T.z_isinstance (by decide +kernel) (pa_cons (pv 3) (pa_cons (pe_bltn (v := .ty "tuple") (by rfl) T.z_tuple (by decide +kernel) rfl) pa_nil))))) (pw_or1 (pt_cmpR op_ne (pe_callB (lenS K rfl) (by rfl) T.z_len (by decide +kernel) (pa_cons (pv 3) pa_nil)) (pv 2) (nomark _)))))
      (pss_one (ps_ret pe_bl))
      pss_nil)
      (pss_one (ps_for PassesOwn.never rfl (piS K rfl (pv 3)) (pg_name (i := 4) sc_law_is_rows.nd rfl (by first | exact .inl rfl | exact .inr rfl))
      (pss_one (ps_if (PW.pt (pw_or (pt_not (pt_val (pe_callB (isiK K rfl) (by rfl) T.z_isinstance (by decide +kernel) (pa_cons (pv 4) (pa_cons (pe_bltn (v := .ty "int") (by rfl) T.z_int (by decide +kernel) rfl) pa_nil))))) (pw_or1 (pt_val (pe_callB (isiK K rfl) (by rfl) T.z_isinstance (by decide +kernel) (pa_cons (pv 4) (pa_cons (pe_bltn (v := .ty "bool") (by rfl) T.z_bool (by decide +kernel) rfl) pa_nil)))))))
      (pss_one (ps_ret pe_bl))
      pss_nil))))))
      (pss_one (ps_ret pe_bl)))), ?_⟩
    refine ⟨_, rfl, .ref p, .ref T.C_Grid, _, _, true, rfl, .own _, .base (.ins ho T.cl_Grid T.kc_Grid T.kg_Grid T.kt_Grid T.km_Grid), ?_, true, rfl, ?_⟩
    · unfold PySem.W.kitOne
      rw [if_pos (beq_self_eq_true _)]
    refine iteF ?_
    refine ⟨_, rfl, p, T.C_Grid, dx, _, _, rfl, ho, T.cl_Grid, T.n_rows, flds_rows _ _, .ref a, .ty "tuple", _, _, true, rfl, .ty _, row_ty hs, kit_ty (by decide +kernel), true, rfl, ?_⟩
    refine iteF ?_
    refine ⟨_, rfl, p, T.C_Grid, dx, _, _, rfl, ho, T.cl_Grid, T.n_width, flds_width _ _, _, rfl, rfl, _, rfl, ?_⟩
    rw [decide_eq_true rfl]
    refine iteF ?_
    refine ⟨_, rfl, p, dx, _, rfl, ho, .ref p, m, wd, rfl, G, m.length, rfl, by omega, _, rfl, rfl, _, rfl, ?_⟩
    rw [hl, decide_eq_true rfl]
    refine iteF ?_
    -- for row in value.rows
    refine ⟨_, rfl, p, T.C_Grid, dx, _, _, rfl, ho, T.cl_Grid, T.n_rows, flds_rows _ _, a, ws, rfl, .inr hs, fun J G W hG => ?_⟩
    refine for_it W (fun i σ H2 => ∃ y3 y4, σ = [some (.ref p), some (.int n), some (.int wd), y3, y4] ∧ H2 = H) ⟨_, _, rfl, rfl⟩ (fun i σ H2 _ ⟨_, _, _, e⟩ => hG _ fun b _ o h => by rw [e]; exact h) ?_ ?_
    · rintro i x σ H2 H2' hi ⟨y3, y4, rfl, rfl⟩ ⟨rfl, ex⟩
      obtain ⟨r, er, b, rfl, hb⟩ := Paired.getR hp ex
      have hrl := hrw r (List.mem_of_getElem? er)
      refine ⟨_, rfl, .ref b, .ty "tuple", _, _, true, rfl, .ty _, row_ty hb, kit_ty (by decide +kernel), true, rfl, ?_⟩
      refine iteF ?_
      refine ⟨_, rfl, b, _, rfl, .inr hb, _, rfl, rfl, _, rfl, ?_⟩
      rw [List.length_map, hrl, decide_eq_true rfl]
      refine iteF ?_
      -- for x in row
      refine ⟨_, rfl, b, _, rfl, .inr hb, fun J2 G2 W2 hG2 => ?_⟩
      refine for_it W2 (fun i σ H2 => ∃ y4, σ = [some (.ref p), some (.int n), some (.int wd), some (.ref b), y4] ∧ H2 = H2') ⟨_, rfl, rfl⟩ (fun i σ H2 _ ⟨_, _, e⟩ => hG2 _ fun b _ o h => by rw [e]; exact h) ?_ ?_
      · rintro j y σ H3 H3' hj ⟨y4, rfl, rfl⟩ ⟨rfl, ey⟩
        obtain ⟨z, ez, rfl⟩ := ints_get ey
        refine ⟨_, rfl, .int z, .ty "int", _, _, true, rfl, .ty _, .base (.int z), kit_ty (by decide +kernel), true, rfl, ?_⟩
        refine iteF ?_
        refine ⟨_, rfl, .int z, .ty "bool", _, _, false, rfl, .ty _, .base (.int z), kit_ty (by decide +kernel), false, rfl, ?_⟩
        refine iteF ?_
        exact ⟨_, rfl, rfl⟩
      · rintro σ H3 ⟨y4, rfl, rfl⟩
        exact ⟨_, _, rfl, rfl⟩
    · rintro σ H2 ⟨y3, y4, rfl, rfl⟩
      exact q
theorem cal_law_is_rows (T : Top K mg) (hN : base.NoSeer) (hT : P.given.tree = none) : Cal P w K mg base 3 "_law_is_rows" (sp_law_is_rows K T.C_Grid) [] := ⟨⟨_, _, _, [], ok_law_is_rows T hN hT, T.g_law_is_rows, T.F_law_is_rows.kp, T.b_law_is_rows, .nil⟩⟩

end
end K02
namespace K02
open PySem PySem.Spec PyProof.Rows L2 Gm
open C8 (Cal Met Mak pe_c pe_mt pe_mt0 pe_mk)
section
variable {P : Program} {w : World} {K : PySem.W.Frag} {mg : Str → Option Value} {base : Heap}
/-! ### _law_determinant -/
def SRows (K : PySem.W.Frag) (H : Hp) (v : V) (m : List (List Int)) : Prop := ∃ a ws, v = .ref a ∧ Gm.Seq K H a ws ∧ Paired (TRow K H) ws m
def detT (n : Nat) (f : List (List Int) → Int) (m : List (List Int)) (k : Nat) : Int := (1 - 2 * ((k : Int) % 2)) * (m.headD []).getD k 0 * f (m.tail.map fun r => r.eraseIdx k)
/-- the law's determinant, by the first row -/
def detL : Nat → List (List Int) → Int
  | 0, _ => 1
  | n + 1, m => ((List.range (n + 1)).map (detT n (detL n) m)).sum
theorem sq_tail {n B : Nat} {m : List (List Int)} (h : Sq (n + 1) B m) {k : Nat} (hk : k < n + 1) : Sq n B (m.tail.map fun r => r.eraseIdx k) := by
  refine ⟨by rw [List.length_map, List.length_tail, h.len]; rfl, fun r hr => ?_, fun r hr => ?_⟩
  · obtain ⟨r', hr', rfl⟩ := List.mem_map.mp hr
    have := h.row r' (List.mem_of_mem_tail hr')
    rw [List.length_eraseIdx_of_lt (by omega), this]
    rfl
  · obtain ⟨r', hr', rfl⟩ := List.mem_map.mp hr
    exact fun x hx => h.bits r' (List.mem_of_mem_tail hr') x (List.mem_of_mem_eraseIdx hx)
theorem sum_le {b : Nat} : ∀ {l : List Int}, (∀ x ∈ l, x.natAbs ≤ b) → l.sum.natAbs ≤ l.length * b
  | [], _ => by simp
  | x :: l, h => by
    have h1 := h x (List.mem_cons_self ..)
    have h2 := sum_le fun y hy => h y (List.mem_cons_of_mem _ hy)
    rw [List.sum_cons, List.length_cons, Nat.succ_mul]
    omega
theorem detT_le {n B c : Nat} {f : List (List Int) → Int} {m : List (List Int)} (h : Sq (n + 1) B m) {k : Nat} (hk : k < n + 1) (hf : (f (m.tail.map fun r => r.eraseIdx k)).natAbs < 2 ^ c) : (detT n f m k).natAbs ≤ 2 ^ B * 2 ^ c := by
  have h0 : ((m.headD []).getD k 0).natAbs < 2 ^ B := by
    cases m with
    | nil => exact absurd h.len (by simp)
    | cons r m =>
      have hr := h.row r (List.mem_cons_self ..)
      have hk' : k < r.length := by omega
      show (r.getD k 0).natAbs < 2 ^ B
      rw [List.getD_eq_getElem?_getD, List.getElem?_eq_getElem hk']
      exact h.bits r (List.mem_cons_self ..) _ (List.getElem_mem hk')
  have h1 : (1 - 2 * ((k : Int) % 2)).natAbs = 1 := by omega
  unfold detT
  rw [Int.natAbs_mul, Int.natAbs_mul, h1, Nat.one_mul]
  exact Nat.mul_le_mul (Nat.le_of_lt h0) (Nat.le_of_lt hf)
theorem detL_le {B : Nat} : ∀ {n : Nat} {m : List (List Int)}, n ≤ 10 → Sq n B m → (detL n m).natAbs < 2 ^ (n * (B + 8) + 1)
  | 0, m, _, _ => by
    show (1 : Int).natAbs < 2 ^ (0 * (B + 8) + 1)
    rw [Nat.zero_mul]
    decide
  | n + 1, m, hn, h => by
    have hs : (detL (n + 1) m).natAbs ≤ ((List.range (n + 1)).map (detT n (detL n) m)).length * (2 ^ B * 2 ^ (n * (B + 8) + 1)) := by
      refine sum_le fun x hx => ?_
      obtain ⟨k, hk, rfl⟩ := List.mem_map.mp hx
      have hk' := List.mem_range.mp hk
      exact detT_le h hk' (detL_le (by omega) (sq_tail h hk'))
    rw [List.length_map, List.length_range, ← Nat.pow_add] at hs
    have h2 : n + 1 < 2 ^ 8 := by have : (2 : Nat) ^ 8 = 256 := rfl; omega
    have h3 : (n + 1) * 2 ^ (B + (n * (B + 8) + 1)) < 2 ^ 8 * 2 ^ (B + (n * (B + 8) + 1)) := (Nat.mul_lt_mul_right (Nat.two_pow_pos _)).mpr h2
    rw [← Nat.pow_add] at h3
    have e : 8 + (B + (n * (B + 8) + 1)) = (n + 1) * (B + 8) + 1 := by rw [Nat.succ_mul]; omega
    rw [e] at h3
    omega
def sp_det (K : PySem.W.Frag) (n : Nat) : Sp := fun vs H Q _ => ∃ v m B, vs = [v] ∧ SRows K H v m ∧ Sq n B m ∧ B ≤ 1200000 ∧ ∀ H', Same H H' → Q (.int (detL n m)) H'
theorem ok_det (T : Top K mg) (hN : base.NoSeer) (hT : P.given.tree = none) : ∀ n, n ≤ 8 → FnOk P w K mg base CX0 (n + 1) T.a_law_determinant T.d_law_determinant ["rows"] (sp_det K n)
  | 0, _ => by
    refine T.F_law_determinant.ok sc_law_determinant (fun vs H Q E h => ?_) (fun cdv A outer s H vs Q E hr h => ?_)
    · obtain ⟨v, m, B, rfl, _⟩ := h
      rfl
    · obtain ⟨v, m, B, rfl, ⟨a, ws, rfl, hs, hp⟩, sq, hB, q⟩ := h
      refine ⟨_, (pss_cons (ps_if (pt_cmpR op_eq (pe_callB (lenS K rfl) (by rfl) T.z_len (by decide +kernel) (pa_cons (pv 0) pa_nil)) pe_int (nomark _))
      (pss_one (ps_ret pe_int))
      pss_nil)
      (pss_cons ps_never
      (pss_cons ps_never
      (pss_one ps_never)))), ?_⟩
      refine ⟨_, rfl, a, ws, rfl, hs, rfl, _, rfl, ?_⟩
      rw [show decide (V.int (ws.length : Int) = V.int 0) = true by rw [Paired.length hp, sq.len]; exact decide_eq_true rfl]
      exact iteT (q H (Same.refl _))
  | n + 1, hn8 => by
    have IH := ok_det T hN hT n (by omega)
    have cself : Cal P w K mg base (n + 1) "_law_determinant" (sp_det K n) [] := ⟨⟨_, _, _, [], IH, T.g_law_determinant, T.F_law_determinant.kp, T.b_law_determinant, .nil⟩⟩
    refine T.F_law_determinant.ok sc_law_determinant (fun vs H Q E h => ?_) (fun cdv A outer s H vs Q E hr h => ?_)
    · obtain ⟨v, m, B, rfl, _⟩ := h
      rfl
    · obtain ⟨v, m, B, rfl, ⟨a, ws, rfl, hs, hp⟩, sq, hB, q⟩ := h
      have lw := Paired.length hp
      have lm := sq.len
      obtain ⟨r0, mt, rfl⟩ : ∃ r0 mt, m = r0 :: mt := by
        cases m with
        | nil => exact absurd lm (by simp)
        | cons r0 mt => exact ⟨r0, mt, rfl⟩
      obtain ⟨v0, wt, rfl⟩ : ∃ v0 wt, ws = v0 :: wt := by
        cases ws with
        | nil => exact absurd lw (by simp)
        | cons v0 wt => exact ⟨v0, wt, rfl⟩
      have hr0 := sq.row r0 (List.mem_cons_self ..)
      obtain ⟨⟨b0, rfl, hb0⟩, hpt⟩ : TRow K H v0 r0 ∧ Paired (TRow K H) wt mt := by
        cases hp with
        | cons x y => exact ⟨x, y⟩
      have lwt := Paired.length hpt
      have lmt : mt.length = n := by rw [List.length_cons] at lm; omega
      refine ⟨_, (pss_cons (ps_if (pt_cmpR op_eq (pe_callB (lenS K rfl) (by rfl) T.z_len (by decide +kernel) (pa_cons (pv 0) pa_nil)) pe_int (nomark _))
      (pss_one (ps_ret pe_int))
      pss_nil)
      (pss_cons (ps_set (i := 1) sc_law_determinant.nd rfl (by first | exact .inl rfl | exact .inr rfl) pe_int)
      (pss_cons (ps_for PassesOwn.never rfl (pi_range1 (by rfl) T.z_range (pa_cons (pe_callB (lenS K rfl) (by rfl) T.z_len (by decide +kernel) (pa_cons (pv 0) pa_nil)) pa_nil)) (pg_name (i := 2) sc_law_determinant.nd rfl (by first | exact .inl rfl | exact .inr rfl))
      (pss_one (ps_if (pt_cmpR op_ne (pe_ix (ixT K rfl) (pe_ix (ixS K rfl) (pv 0) pe_int (fun _ _ => rfl)) (pv 2) (fun _ _ => rfl)) pe_int (nomark _))
      (pss_cons (ps_setLc (i := 3) (own := [("row", 4)]) (g := (gName 4)) (by rfl) sc_law_determinant.nd rfl rfl (sw_true rfl rfl rfl (by decide +kernel)) (piS K rfl (pe_slice (slSK K rfl) (pv 0) (po_some pe_int) po_none)) ((by show BlkOk ["rows", "total", "k", "minor_v", "row"] (defScope s_law_determinant) _ _; exact blkOk_by (by decide +kernel))) (fun _ _ _ _ _ => (pg_name (i := 4) sc_law_determinant.nd rfl (by first | exact .inl rfl | exact .inr rfl))) (fun _ _ _ _ _ => pts_nil) (fun _ _ _ _ _ => (pe_op (catK K rfl) (pe_slice (slTK K rfl) (pv 4) po_none (po_some (pv 2))) (pe_slice (slTK K rfl) (pv 4) (po_some (pe_op op_add (pv 2) pe_int)) po_none))))
      (pss_one (ps_set (i := 1) sc_law_determinant.nd rfl (by first | exact .inl rfl | exact .inr rfl) (pe_op op_add (pv 1) (pe_op op_mulX (pe_op op_mulX (pe_op op_sub pe_int (pe_op op_mul pe_int (pe_op op_mod (pv 2) pe_int))) (pe_ix (ixT K rfl) (pe_ix (ixS K rfl) (pv 0) pe_int (fun _ _ => rfl)) (pv 2) (fun _ _ => rfl))) (pe_c cself hr (Nat.le_refl _) (by rfl) (pa_cons (pv 3) pa_nil)))))))
      pss_nil)))
      (pss_one (ps_ret (pv 1)))))), ?_⟩
      refine ⟨_, rfl, a, _, rfl, hs, rfl, _, rfl, ?_⟩
      rw [show decide (V.int (((V.ref b0 :: wt).length : Nat) : Int) = V.int 0) = false from decide_eq_false fun z => by have := V.int.inj z; rw [List.length_cons] at this; omega]
      refine iteF ?_
      -- total = 0; for k in range(len(rows))
      refine ⟨_, rfl, a, _, rfl, hs, _, rfl, by omega, by rw [lw, lm]; omega, ?_⟩
      rw [show ((((V.ref b0 :: wt).length : Nat) : Int)).toNat = n + 1 by rw [lw, lm]; exact Int.toNat_natCast _]
      refine for_it walk_range (fun k σ H2 => ∃ y2 y3 y4, σ = [some (.ref a), some (.int (((List.range (n + 1)).map (detT n (detL n) (r0 :: mt))).take k).sum), y2, y3, y4] ∧ Same H H2) ⟨_, _, _, rfl, Same.refl _⟩ (fun _ _ _ _ _ => trivial) ?_ ?_
      · rintro k x σ H2 H2' hk ⟨y2, y3, y4, rfl, s2⟩ ⟨rfl, rfl⟩
        have hk0 : k < r0.length := by omega
        have et : ((List.range (n + 1)).map (detT n (detL n) (r0 :: mt)))[k]? = some (detT n (detL n) (r0 :: mt) k) := by
          rw [List.getElem?_map, List.getElem?_range hk]
          rfl
        have e0 : (r0 : List Int).getD k 0 = r0[k] := by
          rw [List.getD_eq_getElem?_getD, List.getElem?_eq_getElem hk0]
          rfl
        have hs2 := hs.same s2
        refine ⟨_, rfl, ?_⟩
        refine rIx_seq hs2 (atI_nat (j := 0) rfl) ?_
        refine ⟨_, rfl, b0, _, _, _, rfl, rfl, Same.seqT s2 hb0, at_of (j := k) (by omega) (ints_at (List.getElem?_eq_getElem hk0)), rfl, _, rfl, ?_⟩
        by_cases hz : r0[k] = 0
        · rw [hz]
          refine iteNS rfl ?_
          refine ⟨some (.int (0 + (k : Int))), y3, y4, ?_, s2⟩
          rw [sum_take et]
          have : detT n (detL n) (r0 :: mt) k = 0 := by
            unfold detT
            show (1 - 2 * ((k : Int) % 2)) * r0.getD k 0 * _ = 0
            rw [e0, hz, Int.mul_zero, Int.zero_mul]
          rw [this, Int.add_zero]
          rfl
        · rw [show decide (V.int r0[k] = V.int 0) = false from decide_eq_false fun z => hz (V.int.inj z)]
          refine iteT ?_
          -- minor_v = [row[:k] + row[k + 1:] for row in rows[1:]]
          refine ⟨_, rfl, 1, rfl, ?_⟩
          refine (show rSlS K (.ref a) (some 1) none H2' _ from ?_)
          refine slS_drop1 hs2 (by simp) fun p1 H3 s3 hs3 => ?_
          refine ⟨p1, _, rfl, hs3, fun J G W hG D hD => ?_⟩
          refine lc_all W hD (by rw [List.length_drop, lw, lm]; omega) (fun H4 s4 => hG H4 fun b _ o => s4 b o) (fun i v H4 => ∃ r, (mt.map fun r => r.eraseIdx k)[i]? = some r ∧ TRow K H4 v r) (fun i v H4 H5 acc e o ⟨r, er, h⟩ => ⟨r, er, TRow.off e o h⟩) ?_ gm_name ?_
          · rintro i x H4 H4' acc Ko hi s4 eD ⟨rfl, ex⟩ kk
            have ex' : wt[i]? = some x := ex
            obtain ⟨r, er, b, rfl, hb⟩ := Paired.getR hpt ex'
            have hrl := sq.row r (List.mem_cons_of_mem _ (List.mem_of_getElem? er))
            have hb4 := Same.seqT (s2.trans (s3.trans s4)) hb
            refine ⟨rfl, ?_⟩
            refine ⟨_, rfl, _, rfl, 0 + (k : Int), rfl, ?_⟩
            rw [Int.zero_add]
            refine slA_take hb4 k fun p2 H5 s5 t5 => ?_
            refine ⟨_, rfl, _, rfl, (k : Int), 1, (by show V.int (0 + (k : Int)) = V.int (k : Int); rw [Int.zero_add]), rfl, _, rfl, ?_⟩
            rw [show (k : Int) + 1 = ((k + 1 : Nat) : Int) by omega]
            refine (show rSlA K (.ref b) (some ((k + 1 : Nat) : Int)) none H5 (fun y H2 => rCatA K (.ref p2) y H2 Ko) from ?_)
            refine slA_drop (Same.seqT s5 hb4) (k + 1) fun p3 H6 s6 t6 => ?_
            refine catA (Same.seqT s6 t5) t6 (by simp only [List.length_take, List.length_drop, List.length_map]; omega) fun p4 H7 s7 t7 => ?_
            refine kk _ _ (s5.trans (s6.trans s7)) ⟨r.eraseIdx k, by rw [List.getElem?_map, er]; rfl, p4, rfl, ?_⟩
            rw [← erase_eq, List.map_append, List.map_take, List.map_drop]
            exact t7
          · intro H4 l s4 eD hpl
            have sm := s2.trans (s3.trans s4)
            have hrows : SRows K H4 (.ref D) (mt.map fun r => r.eraseIdx k) := ⟨D, l, rfl, .inl (.inl (.inl eD)), paired_at (m := mt.map fun r => r.eraseIdx k) (by rw [List.length_map, List.length_drop, List.length_cons, lwt]; omega) hpl⟩
            have sqt : Sq n B (mt.map fun r => r.eraseIdx k) := sq_tail sq hk
            -- total = total + (1 - 2 * (k % 2)) * rows[0][k] * _law_determinant(minor_v)
            refine ⟨_, rfl, _, rfl, 0 + (k : Int), 2, rfl, rfl, by show (0 : Int) < 2; decide, 2, _, rfl, rfl, .inl ⟨by decide, by decide⟩, 1, _, rfl, rfl, _, rfl, ?_⟩
            refine rIx_seq (hs.same sm) (atI_nat (j := 0) rfl) ?_
            refine ⟨_, rfl, b0, _, _, _, rfl, rfl, Same.seqT sm hb0, at_of (j := k) (by omega) (ints_at (List.getElem?_eq_getElem hk0)), ?_⟩
            have bk : (r0[k]).natAbs < 2 ^ B := sq.bits r0 (List.mem_cons_self ..) _ (List.getElem_mem hk0)
            have b1 : (1 - 2 * ((0 + (k : Int)) % 2)).natAbs < 2 ^ 1 := by
              have : (1 - 2 * ((0 + (k : Int)) % 2)).natAbs = 1 := by omega
              rw [this]
              decide
            refine ⟨_, _, rfl, rfl, mulx_ok b1 bk (by omega), _, rfl, .ref D, _, B, rfl, hrows, sqt, hB, fun H5 s5 => ?_⟩
            have bd := detL_le (by omega : n ≤ 10) sqt
            have hnB : n * (B + 8) ≤ 8 * (1200000 + 8) := Nat.mul_le_mul (by omega) (by omega)
            refine ⟨_, _, rfl, rfl, mulx_ok (wide_lt b1 bk) bd (by omega), _, _, rfl, rfl, ?_⟩
            refine ⟨some (.int (0 + (k : Int))), some (.ref D), y4, ?_, sm.trans s5⟩
            rw [sum_take et]
            have : detT n (detL n) (r0 :: mt) k = (1 - 2 * ((0 + (k : Int)) % 2)) * r0[k] * detL n (mt.map fun r => r.eraseIdx k) := by
              unfold detT
              show (1 - 2 * ((k : Int) % 2)) * r0.getD k 0 * _ = _
              rw [e0, Int.zero_add]
              rfl
            rw [this]
            rfl
      · rintro σ H2 ⟨y2, y3, y4, rfl, s2⟩
        rw [List.take_of_length_le (by rw [List.length_map, List.length_range]; exact Nat.le_refl _)]
        exact ⟨_, rfl, q _ s2⟩
def sp_law_determinant (K : PySem.W.Frag) : Sp := fun vs H Q E => ∃ n, n ≤ 8 ∧ sp_det K n vs H Q E
theorem ok_law_determinant (T : Top K mg) (hN : base.NoSeer) (hT : P.given.tree = none) : FnOk P w K mg base CX0 10 T.a_law_determinant T.d_law_determinant ["rows"] (sp_law_determinant K) :=
  ⟨fun vs H Q E ⟨n, hn, v, m, B, e, _⟩ => by rw [e]; rfl, fun A outer s H args us vs Q E hr e b v ⟨n, hn, h⟩ => (ok_det T hN hT n hn).run A outer s H args us vs Q E (hr.mono (by omega)) e b v h⟩
theorem cal_law_determinant (T : Top K mg) (hN : base.NoSeer) (hT : P.given.tree = none) : Cal P w K mg base 10 "_law_determinant" (sp_law_determinant K) [] := ⟨⟨_, _, _, [], ok_law_determinant T hN hT, T.g_law_determinant, T.F_law_determinant.kp, T.b_law_determinant, .nil⟩⟩

end
end K02
namespace K02
open PySem PySem.Spec PyProof.Rows L2 Gm
open C8 (Cal Met Mak pe_c pe_mt pe_mt0 pe_mk)
section
variable {P : Program} {w : World} {K : PySem.W.Frag} {mg : Str → Option Value} {base : Heap}
/-! ### what is refused -/
theorem exm1 {K : PySem.W.Frag} {S : Addr} (h1 : PySem.W.subIn K (.ref S) (.type "BaseException") = some true) (h2 : PySem.W.isClsIn K S = true) (h3 : PySem.W.typeIn K (.ref S) = some (.type "type")) (h4 : PySem.W.subIn K (.ref S) (.ref S) = some true) :
    PySem.W.exmOne K (.ref S) (.ref S) = some true := by
  have e1 : (PySem.W.subIn K (.ref S) (.type "BaseException") == some true) = true := by rw [h1] <;> rfl
  have e2 : ((PySem.W.clsIn K S).isSome && PySem.W.typeIn K (.ref S) == some (.type "type")) = true := by
    have h2' : (PySem.W.clsIn K S).isSome = true := h2
    rw [h2', h3] <;> rfl
  show (if (PySem.W.subIn K (.ref S) (.type "BaseException") == some true) = true then (if ((PySem.W.clsIn K S).isSome && PySem.W.typeIn K (.ref S) == some (.type "type")) = true then PySem.W.subIn K (.ref S) (.ref S) else none) else none) = some true
  rw [if_pos e1, if_pos e2]
  exact h4
def sp_check_square_X (K : PySem.W.Frag) (C X : Addr) : Sp := fun vs H _ E => ∃ v m w, vs = [v] ∧ IsGrid K C H v m w ∧ m.length ≠ w ∧ E (.ref X) none H
theorem ok_check_square_X (T : Top K mg) (hN : base.NoSeer) (hT : P.given.tree = none) : FnOk P w K mg base (L2.CX P w) 2 T.a_check_square T.d_check_square ["a"] (sp_check_square_X K T.C_Grid T.X_Malformed) := by
  refine T.F_check_square.okX sc_check_square (fun vs H Q E h => ?_) (fun cdv A outer s H vs Q E hr h => ?_)
  · obtain ⟨v, m, w, rfl, _⟩ := h
    rfl
  · obtain ⟨v, m, w, rfl, G, hw, q⟩ := h
    obtain ⟨⟨p, dx, t, rfl, ho, ht⟩, hrw⟩ := id G
    refine ⟨_, pss_one (ps_if (pt_not (pt_val (pe_mt0 (met_Grid_is_square T hN hT) hr (by decide) (pv 0))))
      (pss_one (ps_raise rfl (takes_of rfl rfl rfl rfl) (pmk_own PySem.F.excBase_ValueError T.xX_Malformed T.gX_Malformed T.kX_Malformed (raises_own T.bX_Malformed T.tX_Malformed) (by exact rfl)))) pss_nil), ?_⟩
    refine ⟨_, rfl, p, dx, _, rfl, ho, m_is_square _ _, .ref p, m, w, rfl, G, _, rfl, ?_⟩
    rw [decide_eq_false hw]
    exact iteT q
def sp_meth_X (K : PySem.W.Frag) (C X : Addr) : Sp := fun vs H _ E => ∃ v m w, vs = [v] ∧ IsGrid K C H v m w ∧ m.length ≠ w ∧ E (.ref X) none H
theorem ok_Grid_determinant_X (T : Top K mg) (hN : base.NoSeer) (hT : P.given.tree = none) : FnOk P w K mg base (L2.CX P w) 3 T.a_Grid_determinant T.d_Grid_determinant ["self"] (sp_meth_X K T.C_Grid T.X_Malformed) := by
  refine T.F_Grid_determinant.okX sc_Grid_determinant (fun vs H Q E h => ?_) (fun cdv A outer s H vs Q E hr h => ?_)
  · obtain ⟨v, m, w, rfl, _⟩ := h
    rfl
  · obtain ⟨v, m, w, rfl, G, hw, q⟩ := h
    refine ⟨_, pss_cons (ps_expr (pe_call (E := E) (ok_check_square_X T hN hT) hr (by rfl) T.g_check_square T.F_check_square.kp T.b_check_square .nil (passes_call (takes_of rfl rfl rfl rfl) (fun _ _ _ _ h => h)) (pa_cons (pv 0) pa_nil))) (pss_one ps_never), ?_⟩
    exact ⟨_, rfl, v, m, w, rfl, G, hw, q⟩
theorem ok_Grid_adjugate_X (T : Top K mg) (hN : base.NoSeer) (hT : P.given.tree = none) : FnOk P w K mg base (L2.CX P w) 3 T.a_Grid_adjugate T.d_Grid_adjugate ["self"] (sp_meth_X K T.C_Grid T.X_Malformed) := by
  refine T.F_Grid_adjugate.okX sc_Grid_adjugate (fun vs H Q E h => ?_) (fun cdv A outer s H vs Q E hr h => ?_)
  · obtain ⟨v, m, w, rfl, _⟩ := h
    rfl
  · obtain ⟨v, m, w, rfl, G, hw, q⟩ := h
    refine ⟨_, pss_cons (ps_expr (pe_call (E := E) (ok_check_square_X T hN hT) hr (by rfl) T.g_check_square T.F_check_square.kp T.b_check_square .nil (passes_call (takes_of rfl rfl rfl rfl) (fun _ _ _ _ h => h)) (pa_cons (pv 0) pa_nil))) (pss_one ps_never), ?_⟩
    exact ⟨_, rfl, v, m, w, rfl, G, hw, q⟩
def sp_law_refused (K : PySem.W.Frag) (C : Addr) : Sp := fun vs H Q _ => ∃ v m w, vs = [v] ∧ IsGrid K C H v m w ∧ m.length ≠ w ∧ ∀ H', Same H H' → Q (.bl true) H'
theorem ok_law_refused (T : Top K mg) (hN : base.NoSeer) (hT : P.given.tree = none) : FnOk P w K mg base CX0 47 T.a_law_refused T.d_law_refused ["grid"] (sp_law_refused K T.C_Grid) := by
  refine T.F_law_refused.ok sc_law_refused (fun vs H Q E h => ?_) (fun cdv A outer s H vs Q E hr h => ?_)
  · obtain ⟨v, m, w, rfl, _⟩ := h
    rfl
  · obtain ⟨v, m, w, rfl, G, hw, q⟩ := h
    obtain ⟨⟨p, dx, t, rfl, ho, ht⟩, hrw⟩ := id G
    have hr3 : Room 3 _ := hr.mono (by decide)
    have eX := exm1 T.bX_Malformed T.iX_Malformed T.tX_Malformed T.sX_Malformed
    refine ⟨_, pss_cons (ps_set (i := 1) sc_law_refused.nd rfl (Or.inl rfl) pe_int)
      (pss_cons (ps_try_only (tb := fun W => tDrop (tMethS T.C_Grid "determinant" (sp_meth_X K T.C_Grid T.X_Malformed) (WE W) (tVar 0) tNil)) (ts := fun _ _ _ => tAsg (tOp (rI0 fun i j => .int (i + j)) (tVar 1) (tC (.int 1))) (gName 1)) (Wout := fun _ _ _ _ => False) rfl rfl ⟨rfl, by decide, Or.inl T.gX_Malformed⟩ takes0
        (fun W pn xe tk _ => pss_one (ps_expr (pe_methS0 (pv 0) T.cl_Grid T.m_Grid_determinant (ok_Grid_determinant_X T hN hT) hr3 T.b_Grid_determinant (fun σ => passAt tk σ))))
        (fun _ _ _ _ _ _ _ => pss_one (ps_set (i := 1) sc_law_refused.nd rfl (Or.inl rfl) (pe_op op_add (pv 1) pe_int))))
      (pss_cons (ps_try_only (tb := fun W => tDrop (tMethS T.C_Grid "adjugate" (sp_meth_X K T.C_Grid T.X_Malformed) (WE W) (tVar 0) tNil)) (ts := fun _ _ _ => tAsg (tOp (rI0 fun i j => .int (i + j)) (tVar 1) (tC (.int 1))) (gName 1)) (Wout := fun _ _ _ _ => False) rfl rfl ⟨rfl, by decide, Or.inl T.gX_Malformed⟩ takes0
        (fun W pn xe tk _ => pss_one (ps_expr (pe_methS0 (pv 0) T.cl_Grid T.m_Grid_adjugate (ok_Grid_adjugate_X T hN hT) hr3 T.b_Grid_adjugate (fun σ => passAt tk σ))))
        (fun _ _ _ _ _ _ _ => pss_one (ps_set (i := 1) sc_law_refused.nd rfl (Or.inl rfl) (pe_op op_add (pv 1) pe_int))))
      (pss_one (ps_ret (pe_and (pe_cmpR op_eq (pv 1) pe_int (nomark _)) (pe_one (pe_cmpR op_isBl (pe_mt0 (met_Grid_is_unimodular T hN hT) hr (by decide) (pv 0)) pe_bl (nomark _)))))))), ?_⟩
    refine ⟨_, rfl, p, dx, _, rfl, ho, m_determinant _ _, .ref p, m, w, rfl, G, hw, ?_⟩
    refine ⟨true, eX, fun _ a _ => ?_, fun z => nomatch z⟩
    refine ⟨_, rfl, _, _, rfl, rfl, ?_⟩
    refine ⟨_, rfl, p, dx, _, rfl, ho, m_adjugate _ _, .ref p, m, w, rfl, G, hw, ?_⟩
    refine ⟨true, eX, fun _ a _ => ?_, fun z => nomatch z⟩
    refine ⟨_, rfl, _, _, rfl, rfl, ?_⟩
    refine ⟨_, rfl, rfl, _, rfl, ?_⟩
    refine iteT ?_
    refine ⟨_, rfl, p, dx, _, rfl, ho, m_is_unimodular _ _, .ref p, m, w, rfl, G, .inl ⟨hw, fun H2 s2 => ?_⟩⟩
    exact ⟨false, false, rfl, rfl, q _ s2⟩
theorem cal_law_refused (T : Top K mg) (hN : base.NoSeer) (hT : P.given.tree = none) : Cal P w K mg base 47 "_law_refused" (sp_law_refused K T.C_Grid) [] := ⟨⟨_, _, _, [], ok_law_refused T hN hT, T.g_law_refused, T.F_law_refused.kp, T.b_law_refused, .nil⟩⟩

end
end K02
namespace K02
open PySem PySem.Spec PyProof.Rows L2 Gm
open C8 (Cal Met Mak pe_c pe_mt pe_mt0 pe_mk)
section
variable {P : Program} {w : World} {K : PySem.W.Frag} {mg : Str → Option Value} {base : Heap}
/-! ### the determinant up to size 4 -/
theorem row1 {r : List Int} (h : r.length = 1) : ∃ a, r = [a] := by
  match r, h with
  | [a], _ => exact ⟨a, rfl⟩
theorem row2 {r : List Int} (h : r.length = 2) : ∃ a b, r = [a, b] := by
  match r, h with
  | [a, b], _ => exact ⟨a, b, rfl⟩
theorem row3 {r : List Int} (h : r.length = 3) : ∃ a b c, r = [a, b, c] := by
  match r, h with
  | [a, b, c], _ => exact ⟨a, b, c, rfl⟩
theorem row4 {r : List Int} (h : r.length = 4) : ∃ a b c d, r = [a, b, c, d] := by
  match r, h with
  | [a, b, c, d], _ => exact ⟨a, b, c, d, rfl⟩
/-- a square matrix -/
structure Sz (n : Nat) (m : List (List Int)) : Prop where
  len : m.length = n
  row : ∀ r ∈ m, r.length = n
theorem Sq.sz {n B : Nat} {m : List (List Int)} (h : Sq n B m) : Sz n m := ⟨h.len, h.row⟩
theorem sz1 {m : List (List Int)} (h : Sz 1 m) : ∃ a, m = [[a]] := by
  obtain ⟨h1, h2⟩ := h
  match m, h1, h2 with
  | [r], _, h2 =>
    obtain ⟨a, rfl⟩ := row1 (h2 r (by simp))
    exact ⟨a, rfl⟩
theorem sz2 {m : List (List Int)} (h : Sz 2 m) : ∃ a b c d, m = [[a, b], [c, d]] := by
  obtain ⟨h1, h2⟩ := h
  match m, h1, h2 with
  | [r, t], _, h2 =>
    obtain ⟨a, b, rfl⟩ := row2 (h2 r (by simp))
    obtain ⟨c, d, rfl⟩ := row2 (h2 t (by simp))
    exact ⟨a, b, c, d, rfl⟩
theorem sz3 {m : List (List Int)} (h : Sz 3 m) : ∃ a b c d e f g k l, m = [[a, b, c], [d, e, f], [g, k, l]] := by
  obtain ⟨h1, h2⟩ := h
  match m, h1, h2 with
  | [r, t, u], _, h2 =>
    obtain ⟨a, b, c, rfl⟩ := row3 (h2 r (by simp))
    obtain ⟨d, e, f, rfl⟩ := row3 (h2 t (by simp))
    obtain ⟨g, k, l, rfl⟩ := row3 (h2 u (by simp))
    exact ⟨a, b, c, d, e, f, g, k, l, rfl⟩
theorem sz4 {m : List (List Int)} (h : Sz 4 m) : ∃ a b c d e f g k l o p q r s t u, m = [[a, b, c, d], [e, f, g, k], [l, o, p, q], [r, s, t, u]] := by
  obtain ⟨h1, h2⟩ := h
  match m, h1, h2 with
  | [r1, r2, r3, r4], _, h2 =>
    obtain ⟨a, b, c, d, rfl⟩ := row4 (h2 r1 (by simp))
    obtain ⟨e, f, g, k, rfl⟩ := row4 (h2 r2 (by simp))
    obtain ⟨l, o, p, q, rfl⟩ := row4 (h2 r3 (by simp))
    obtain ⟨r, s, t, u, rfl⟩ := row4 (h2 r4 (by simp))
    exact ⟨a, b, c, d, e, f, g, k, l, o, p, q, r, s, t, u, rfl⟩
def D2 (a b c d : Int) : Int := a * d - b * c
def D3 (a b c d e f g k l : Int) : Int := a * D2 e f k l - b * D2 d f g l + c * D2 d e g k
def D4 (a b c d e f g k l o p q r s t u : Int) : Int := a * D3 f g k o p q s t u - b * D3 e g k l p q r t u + c * D3 e f k l o q r s u - d * D3 e f g l o p r s t
theorem detL1 (a : Int) : detL 1 [[a]] = a := by
  show (1 - 2 * ((0 : Int) % 2)) * a * 1 + 0 = a
  grind
theorem detL2 (a b c d : Int) : detL 2 [[a, b], [c, d]] = D2 a b c d := by
  show (1 - 2 * ((0 : Int) % 2)) * a * detL 1 [[d]] + ((1 - 2 * ((1 : Int) % 2)) * b * detL 1 [[c]] + 0) = a * d - b * c
  rw [detL1, detL1]
  grind
theorem detL3 (a b c d e f g k l : Int) : detL 3 [[a, b, c], [d, e, f], [g, k, l]] = D3 a b c d e f g k l := by
  show (1 - 2 * ((0 : Int) % 2)) * a * detL 2 [[e, f], [k, l]] + ((1 - 2 * ((1 : Int) % 2)) * b * detL 2 [[d, f], [g, l]] + ((1 - 2 * ((2 : Int) % 2)) * c * detL 2 [[d, e], [g, k]] + 0)) = a * D2 e f k l - b * D2 d f g l + c * D2 d e g k
  rw [detL2, detL2, detL2]
  grind
theorem detL4 (a b c d e f g k l o p q r s t u : Int) : detL 4 [[a, b, c, d], [e, f, g, k], [l, o, p, q], [r, s, t, u]] = D4 a b c d e f g k l o p q r s t u := by
  show (1 - 2 * ((0 : Int) % 2)) * a * detL 3 [[f, g, k], [o, p, q], [s, t, u]] + ((1 - 2 * ((1 : Int) % 2)) * b * detL 3 [[e, g, k], [l, p, q], [r, t, u]] + ((1 - 2 * ((2 : Int) % 2)) * c * detL 3 [[e, f, k], [l, o, q], [r, s, u]] + ((1 - 2 * ((3 : Int) % 2)) * d * detL 3 [[e, f, g], [l, o, p], [r, s, t]] + 0))) = a * D3 f g k o p q s t u - b * D3 e g k l p q r t u + c * D3 e f k l o q r s u - d * D3 e f g l o p r s t
  rw [detL3, detL3, detL3, detL3]
  generalize D3 f g k o p q s t u = A
  generalize D3 e g k l p q r t u = B
  generalize D3 e f k l o q r s u = C
  generalize D3 e f g l o p r s t = D
  grind
theorem fdiv_of {x l D : Int} (hl : l ≠ 0) (h : x = l * D) : x.fdiv l = D := by
  rw [h]
  exact Int.mul_fdiv_cancel_left D hl
/-! #### the elimination -/
theorem bare1 (s l x : Int) : bare 1 s l [[x]] = s * x := by
  by_cases h : x = 0
  · subst h
    show (0 : Int) = s * 0
    rw [Int.mul_zero]
  · have e : bare 1 s l [[x]] = match (if x ≠ 0 then some 0 else none) with
      | none => 0
      | some k => bare 0 (if k % 2 = 1 then -s else s) ((([[x]] : List (List Int)).getD k []).headD 0) (((([[x]] : List (List Int)).eraseIdx k)).map fun r => clr ((([[x]] : List (List Int))).getD k []) r l) := rfl
    rw [e, if_pos h]
    rfl
theorem bare2 (s l a b c d D : Int) (hl : l ≠ 0) (h : D2 a b c d = l * D) : bare 2 s l [[a, b], [c, d]] = s * D := by
  have e : bare 2 s l [[a, b], [c, d]] = match (if a ≠ 0 then some 0 else if c ≠ 0 then some 1 else none) with
      | none => 0
      | some k => bare 1 (if k % 2 = 1 then -s else s) ((([[a, b], [c, d]] : List (List Int)).getD k []).headD 0) (((([[a, b], [c, d]] : List (List Int)).eraseIdx k)).map fun r => clr ((([[a, b], [c, d]] : List (List Int))).getD k []) r l) := rfl
  unfold D2 at h
  rw [e]
  by_cases ha : a = 0
  · rw [if_neg (fun z => z ha)]
    by_cases hc : c = 0
    · rw [if_neg (fun z => z hc)]
      have : l * D = 0 := by rw [← h, ha, hc]; grind
      rcases Int.mul_eq_zero.mp this with z | z
      · exact absurd z hl
      · rw [z, Int.mul_zero]
    · rw [if_pos hc]
      show bare 1 (-s) c [[(c * b - a * d).fdiv l]] = s * D
      rw [fdiv_of hl (show c * b - a * d = l * (-D) by grind), bare1]
      grind
  · rw [if_pos ha]
    show bare 1 s a [[(a * d - c * b).fdiv l]] = s * D
    rw [fdiv_of hl (show a * d - c * b = l * D by grind), bare1]

end
end K02
namespace K02
open PySem PySem.Spec PyProof.Rows L2 Gm
open C8 (Cal Met Mak pe_c pe_mt pe_mt0 pe_mk)
section
variable {P : Program} {w : World} {K : PySem.W.Frag} {mg : Str → Option Value} {base : Heap}
theorem chio3 (a b c d e f g k x : Int) : D2 (a * e - d * b) (a * f - d * c) (a * k - g * b) (a * x - g * c) = a * D3 a b c d e f g k x := by
  unfold D3 D2
  grind
theorem D3_swap1 (a b c d e f g k x : Int) : D3 d e f a b c g k x = -D3 a b c d e f g k x := by
  unfold D3 D2
  grind
theorem D3_swap2 (a b c d e f g k x : Int) : D3 g k x a b c d e f = D3 a b c d e f g k x := by
  unfold D3 D2
  grind
theorem D3_zero (b c e f k x : Int) : D3 0 b c 0 e f 0 k x = 0 := by
  unfold D3 D2
  grind
theorem cancel2 {l x y : Int} (hl : l ≠ 0) (h : l * l * x = l * l * y) : x = y :=
  Int.eq_of_mul_eq_mul_left (Int.mul_ne_zero hl hl) h
theorem can3 {l a D Z p1 p2 p3 p4 : Int} (hl : l ≠ 0) (t : D2 (l * p1) (l * p2) (l * p3) (l * p4) = a * Z) (hz : Z = l * l * D) : D2 p1 p2 p3 p4 = a * D := by
  refine cancel2 hl ?_
  rw [hz] at t
  unfold D2 at t ⊢
  grind
theorem bare3 (s l a b c d e f g k x D q1 q2 q3 q4 q5 q6 : Int) (hl : l ≠ 0) (h1 : D2 a b d e = l * q1) (h2 : D2 a c d f = l * q2) (h3 : D2 a b g k = l * q3) (h4 : D2 a c g x = l * q4) (h5 : D2 d e g k = l * q5) (h6 : D2 d f g x = l * q6) (h : D3 a b c d e f g k x = l * l * D) :
    bare 3 s l [[a, b, c], [d, e, f], [g, k, x]] = s * D := by
  have eb : bare 3 s l [[a, b, c], [d, e, f], [g, k, x]] = match (if a ≠ 0 then some 0 else if d ≠ 0 then some 1 else if g ≠ 0 then some 2 else none) with
      | none => 0
      | some k' => bare 2 (if k' % 2 = 1 then -s else s) ((([[a, b, c], [d, e, f], [g, k, x]] : List (List Int)).getD k' []).headD 0) (((([[a, b, c], [d, e, f], [g, k, x]] : List (List Int)).eraseIdx k')).map fun r => clr ((([[a, b, c], [d, e, f], [g, k, x]] : List (List Int))).getD k' []) r l) := rfl
  rw [eb]
  unfold D2 at h1 h2 h3 h4 h5 h6
  by_cases ha : a = 0
  · rw [if_neg (fun z => z ha)]
    by_cases hd : d = 0
    · rw [if_neg (fun z => z hd)]
      by_cases hg : g = 0
      · rw [if_neg (fun z => z hg)]
        rw [ha, hd, hg, D3_zero] at h
        have z : D = 0 := cancel2 hl (by rw [← h, Int.mul_zero])
        rw [z, Int.mul_zero]
      · rw [if_pos hg]
        show bare 2 s g [[(g * b - a * k).fdiv l, (g * c - a * x).fdiv l], [(g * e - d * k).fdiv l, (g * f - d * x).fdiv l]] = s * D
        have f1 : g * b - a * k = l * (-q3) := by grind
        have f2 : g * c - a * x = l * (-q4) := by grind
        have f3 : g * e - d * k = l * (-q5) := by grind
        have f4 : g * f - d * x = l * (-q6) := by grind
        rw [fdiv_of hl f1, fdiv_of hl f2, fdiv_of hl f3, fdiv_of hl f4]
        refine bare2 s g _ _ _ _ D hg (can3 hl (Z := l * l * D) ?_ rfl)
        have t := chio3 g k x a b c d e f
        rw [D3_swap2, h, f1, f2, f3, f4] at t
        exact t
    · rw [if_pos hd]
      show bare 2 (-s) d [[(d * b - a * e).fdiv l, (d * c - a * f).fdiv l], [(d * k - g * e).fdiv l, (d * x - g * f).fdiv l]] = s * D
      have f1 : d * b - a * e = l * (-q1) := by grind
      have f2 : d * c - a * f = l * (-q2) := by grind
      have f3 : d * k - g * e = l * q5 := by grind
      have f4 : d * x - g * f = l * q6 := by grind
      rw [fdiv_of hl f1, fdiv_of hl f2, fdiv_of hl f3, fdiv_of hl f4]
      rw [show s * D = -s * (-D) by grind]
      refine bare2 (-s) d _ _ _ _ (-D) hd (can3 hl (Z := -(l * l * D)) ?_ (by rw [Int.mul_neg]))
      have t := chio3 d e f a b c g k x
      rw [D3_swap1, h, f1, f2, f3, f4] at t
      exact t
  · rw [if_pos ha]
    show bare 2 s a [[(a * e - d * b).fdiv l, (a * f - d * c).fdiv l], [(a * k - g * b).fdiv l, (a * x - g * c).fdiv l]] = s * D
    have f1 : a * e - d * b = l * q1 := by grind
    have f2 : a * f - d * c = l * q2 := by grind
    have f3 : a * k - g * b = l * q3 := by grind
    have f4 : a * x - g * c = l * q4 := by grind
    rw [fdiv_of hl f1, fdiv_of hl f2, fdiv_of hl f3, fdiv_of hl f4]
    refine bare2 s a _ _ _ _ D ha (can3 hl (Z := l * l * D) ?_ rfl)
    have t := chio3 a b c d e f g k x
    rw [h, f1, f2, f3, f4] at t
    exact t
/-! size 4 -/
theorem chio4 (t0 t1 t2 t3 u0 u1 u2 u3 v0 v1 v2 v3 w0 w1 w2 w3 : Int) :
    D3 (t0 * u1 - u0 * t1) (t0 * u2 - u0 * t2) (t0 * u3 - u0 * t3) (t0 * v1 - v0 * t1) (t0 * v2 - v0 * t2) (t0 * v3 - v0 * t3) (t0 * w1 - w0 * t1) (t0 * w2 - w0 * t2) (t0 * w3 - w0 * t3) =
      t0 * t0 * D4 t0 t1 t2 t3 u0 u1 u2 u3 v0 v1 v2 v3 w0 w1 w2 w3 := by
  unfold D4 D3 D2
  grind
theorem D4_at1 (t0 t1 t2 t3 u0 u1 u2 u3 v0 v1 v2 v3 w0 w1 w2 w3 : Int) : D4 u0 u1 u2 u3 t0 t1 t2 t3 v0 v1 v2 v3 w0 w1 w2 w3 = -D4 t0 t1 t2 t3 u0 u1 u2 u3 v0 v1 v2 v3 w0 w1 w2 w3 := by
  unfold D4 D3 D2
  grind
theorem D4_at2 (t0 t1 t2 t3 u0 u1 u2 u3 v0 v1 v2 v3 w0 w1 w2 w3 : Int) : D4 v0 v1 v2 v3 t0 t1 t2 t3 u0 u1 u2 u3 w0 w1 w2 w3 = D4 t0 t1 t2 t3 u0 u1 u2 u3 v0 v1 v2 v3 w0 w1 w2 w3 := by
  unfold D4 D3 D2
  grind
theorem D4_at3 (t0 t1 t2 t3 u0 u1 u2 u3 v0 v1 v2 v3 w0 w1 w2 w3 : Int) : D4 w0 w1 w2 w3 t0 t1 t2 t3 u0 u1 u2 u3 v0 v1 v2 v3 = -D4 t0 t1 t2 t3 u0 u1 u2 u3 v0 v1 v2 v3 w0 w1 w2 w3 := by
  unfold D4 D3 D2
  grind
theorem D4_zero (t1 t2 t3 u1 u2 u3 v1 v2 v3 w1 w2 w3 : Int) : D4 0 t1 t2 t3 0 u1 u2 u3 0 v1 v2 v3 0 w1 w2 w3 = 0 := by
  unfold D4 D3 D2
  grind
/-- after one step, with the pivot row t -/
theorem bare4p (s t0 t1 t2 t3 u0 u1 u2 u3 v0 v1 v2 v3 w0 w1 w2 w3 D : Int) (h0 : t0 ≠ 0) (h : D4 t0 t1 t2 t3 u0 u1 u2 u3 v0 v1 v2 v3 w0 w1 w2 w3 = D) :
    bare 3 s t0 [[(t0 * u1 - u0 * t1).fdiv 1, (t0 * u2 - u0 * t2).fdiv 1, (t0 * u3 - u0 * t3).fdiv 1], [(t0 * v1 - v0 * t1).fdiv 1, (t0 * v2 - v0 * t2).fdiv 1, (t0 * v3 - v0 * t3).fdiv 1], [(t0 * w1 - w0 * t1).fdiv 1, (t0 * w2 - w0 * t2).fdiv 1, (t0 * w3 - w0 * t3).fdiv 1]] = s * D := by
  have f : ∀ x : Int, x.fdiv 1 = x := fun x => fdiv_of (by decide) (by rw [Int.one_mul])
  simp only [f]
  refine bare3 s t0 _ _ _ _ _ _ _ _ _ D (D3 t0 t1 t2 u0 u1 u2 v0 v1 v2) (D3 t0 t1 t3 u0 u1 u3 v0 v1 v3) (D3 t0 t1 t2 u0 u1 u2 w0 w1 w2) (D3 t0 t1 t3 u0 u1 u3 w0 w1 w3) (D3 t0 t1 t2 v0 v1 v2 w0 w1 w2) (D3 t0 t1 t3 v0 v1 v3 w0 w1 w3) h0 ?_ ?_ ?_ ?_ ?_ ?_ ?_
  · exact chio3 ..
  · exact chio3 ..
  · exact chio3 ..
  · exact chio3 ..
  · exact chio3 ..
  · exact chio3 ..
  · rw [chio4, h]
theorem bare4 (s t0 t1 t2 t3 u0 u1 u2 u3 v0 v1 v2 v3 w0 w1 w2 w3 : Int) :
    bare 4 s 1 [[t0, t1, t2, t3], [u0, u1, u2, u3], [v0, v1, v2, v3], [w0, w1, w2, w3]] = s * D4 t0 t1 t2 t3 u0 u1 u2 u3 v0 v1 v2 v3 w0 w1 w2 w3 := by
  have eb : bare 4 s 1 [[t0, t1, t2, t3], [u0, u1, u2, u3], [v0, v1, v2, v3], [w0, w1, w2, w3]] = match (if t0 ≠ 0 then some 0 else if u0 ≠ 0 then some 1 else if v0 ≠ 0 then some 2 else if w0 ≠ 0 then some 3 else none) with
      | none => 0
      | some k' => bare 3 (if k' % 2 = 1 then -s else s) ((([[t0, t1, t2, t3], [u0, u1, u2, u3], [v0, v1, v2, v3], [w0, w1, w2, w3]] : List (List Int)).getD k' []).headD 0) (((([[t0, t1, t2, t3], [u0, u1, u2, u3], [v0, v1, v2, v3], [w0, w1, w2, w3]] : List (List Int)).eraseIdx k')).map fun r => clr ((([[t0, t1, t2, t3], [u0, u1, u2, u3], [v0, v1, v2, v3], [w0, w1, w2, w3]] : List (List Int))).getD k' []) r 1) := rfl
  rw [eb]
  by_cases ht : t0 = 0
  · rw [if_neg (fun z => z ht)]
    by_cases hu : u0 = 0
    · rw [if_neg (fun z => z hu)]
      by_cases hv : v0 = 0
      · rw [if_neg (fun z => z hv)]
        by_cases hw : w0 = 0
        · rw [if_neg (fun z => z hw), ht, hu, hv, hw, D4_zero, Int.mul_zero]
        · rw [if_pos hw]
          refine (bare4p (-s) w0 w1 w2 w3 t0 t1 t2 t3 u0 u1 u2 u3 v0 v1 v2 v3 _ hw rfl).trans ?_
          rw [D4_at3]
          grind
      · rw [if_pos hv]
        refine (bare4p s v0 v1 v2 v3 t0 t1 t2 t3 u0 u1 u2 u3 w0 w1 w2 w3 _ hv rfl).trans ?_
        rw [D4_at2]
    · rw [if_pos hu]
      refine (bare4p (-s) u0 u1 u2 u3 t0 t1 t2 t3 v0 v1 v2 v3 w0 w1 w2 w3 _ hu rfl).trans ?_
      rw [D4_at1]
      grind
  · rw [if_pos ht]
    exact bare4p s t0 t1 t2 t3 u0 u1 u2 u3 v0 v1 v2 v3 w0 w1 w2 w3 _ ht rfl
theorem bare3' (s a b c d e f g k x : Int) : bare 3 s 1 [[a, b, c], [d, e, f], [g, k, x]] = s * D3 a b c d e f g k x :=
  bare3 s 1 a b c d e f g k x (D3 a b c d e f g k x) _ _ _ _ _ _ (by decide) (Int.one_mul _).symm (Int.one_mul _).symm (Int.one_mul _).symm (Int.one_mul _).symm (Int.one_mul _).symm (Int.one_mul _).symm (by rw [Int.one_mul, Int.one_mul])
/-- the elimination gives the law's determinant -/
theorem bare_det {n : Nat} {m : List (List Int)} (hn : n ≤ 4) (h : Sz n m) : bare n 1 1 m = detL n m := by
  match n, hn, h with
  | 0, _, _ => exact Int.one_mul 1
  | 1, _, h =>
    obtain ⟨a, rfl⟩ := sz1 h
    rw [bare1, detL1, Int.one_mul]
  | 2, _, h =>
    obtain ⟨a, b, c, d, rfl⟩ := sz2 h
    rw [bare2 1 1 a b c d (D2 a b c d) (by decide) (Int.one_mul _).symm, detL2, Int.one_mul]
  | 3, _, h =>
    obtain ⟨a, b, c, d, e, f, g, k, x, rfl⟩ := sz3 h
    rw [bare3', detL3, Int.one_mul]
  | 4, _, h =>
    obtain ⟨a, b, c, d, e, f, g, k, l, o, p, q, r, s, t, u, rfl⟩ := sz4 h
    rw [bare4, detL4, Int.one_mul]

end
end K02
namespace K02
open PySem PySem.Spec PyProof.Rows L2 Gm
open C8 (Cal Met Mak pe_c pe_mt pe_mt0 pe_mk)
section
variable {P : Program} {w : World} {K : PySem.W.Frag} {mg : Str → Option Value} {base : Heap}
/-! ### products, transposed, adjugate -/
def sgn (k : Nat) : Int := 1 - 2 * ((k : Int) % 2)
/-- the law's adjugate, by minors -/
def dueM (n : Nat) (m : List (List Int)) : List (List Int) := (List.range n).map fun i => (List.range n).map fun k => sgn (i + k) * detL (n - 1) (cutM m k i)
/-- d times the unit matrix -/
def scalM (n : Nat) (d : Int) : List (List Int) := (List.range n).map fun i => (List.range n).map fun k => d * (if i = k then 1 else 0)
theorem sgn_even {k : Nat} (h : k % 2 = 0) : sgn k = 1 := by
  unfold sgn
  omega
theorem sgn_odd {k : Nat} (h : k % 2 = 1) : sgn k = -1 := by
  unfold sgn
  omega
theorem mul_eq2 (a00 a01 a10 a11 b00 b01 b10 b11 : Int) : mulM [[a00, a01], [a10, a11]] [[b00, b01], [b10, b11]] 2 = [[a00 * b00 + (a01 * b10 + 0), a00 * b01 + (a01 * b11 + 0)], [a10 * b00 + (a11 * b10 + 0), a10 * b01 + (a11 * b11 + 0)]] := rfl
set_option maxHeartbeats 40000000 in
theorem mulD2 (a00 a01 a10 a11 b00 b01 b10 b11 : Int) : D2 (a00 * b00 + (a01 * b10 + 0)) (a00 * b01 + (a01 * b11 + 0)) (a10 * b00 + (a11 * b10 + 0)) (a10 * b01 + (a11 * b11 + 0)) = D2 a00 a01 a10 a11 * D2 b00 b01 b10 b11 := by
  unfold D2
  grind
theorem tr_eq2 (a00 a01 a10 a11 : Int) : transp [[a00, a01], [a10, a11]] 2 = [[a00, a10], [a01, a11]] := rfl
theorem trD2 (a00 a01 a10 a11 : Int) : D2 a00 a10 a01 a11 = D2 a00 a01 a10 a11 := by
  unfold D2
  grind
theorem due_eq2 (a00 a01 a10 a11 : Int) : dueM 2 [[a00, a01], [a10, a11]] = [[a11, -a01], [-a10, a00]] := by
  show [[sgn (0 + 0) * detL 1 [[a11]], sgn (0 + 1) * detL 1 [[a01]]], [sgn (1 + 0) * detL 1 [[a10]], sgn (1 + 1) * detL 1 [[a00]]]] = _
  simp only [detL1]
  simp only [sgn_even (show (0 + 0) % 2 = 0 from rfl), sgn_odd (show (0 + 1) % 2 = 1 from rfl), sgn_odd (show (1 + 0) % 2 = 1 from rfl), sgn_even (show (1 + 1) % 2 = 0 from rfl), Int.one_mul, Int.neg_mul]
theorem adj2l00 (a00 a01 a10 a11 : Int) : a00 * a11 + (a01 * (-a10) + 0) = D2 a00 a01 a10 a11 * 1 := by
  unfold D2
  grind
theorem adj2l01 (a00 a01 a10 a11 : Int) : a00 * (-a01) + (a01 * a00 + 0) = D2 a00 a01 a10 a11 * 0 := by
  unfold D2
  grind
theorem adj2l10 (a00 a01 a10 a11 : Int) : a10 * a11 + (a11 * (-a10) + 0) = D2 a00 a01 a10 a11 * 0 := by
  unfold D2
  grind
theorem adj2l11 (a00 a01 a10 a11 : Int) : a10 * (-a01) + (a11 * a00 + 0) = D2 a00 a01 a10 a11 * 1 := by
  unfold D2
  grind
theorem adj2r00 (a00 a01 a10 a11 : Int) : a11 * a00 + ((-a01) * a10 + 0) = D2 a00 a01 a10 a11 * 1 := by
  unfold D2
  grind
theorem adj2r01 (a00 a01 a10 a11 : Int) : a11 * a01 + ((-a01) * a11 + 0) = D2 a00 a01 a10 a11 * 0 := by
  unfold D2
  grind
theorem adj2r10 (a00 a01 a10 a11 : Int) : (-a10) * a00 + (a00 * a10 + 0) = D2 a00 a01 a10 a11 * 0 := by
  unfold D2
  grind
theorem adj2r11 (a00 a01 a10 a11 : Int) : (-a10) * a01 + (a00 * a11 + 0) = D2 a00 a01 a10 a11 * 1 := by
  unfold D2
  grind
theorem scal_eq2 (d : Int) : scalM 2 d = [[d * 1, d * 0], [d * 0, d * 1]] := rfl
theorem adjM2l (a00 a01 a10 a11 : Int) : mulM [[a00, a01], [a10, a11]] [[a11, -a01], [-a10, a00]] 2 = scalM 2 (D2 a00 a01 a10 a11) := by
  show [[a00 * a11 + (a01 * (-a10) + 0), a00 * (-a01) + (a01 * a00 + 0)], [a10 * a11 + (a11 * (-a10) + 0), a10 * (-a01) + (a11 * a00 + 0)]] = _
  rw [scal_eq2]
  rw [adj2l00 a00 a01 a10 a11, adj2l01 a00 a01 a10 a11, adj2l10 a00 a01 a10 a11, adj2l11 a00 a01 a10 a11]
theorem adjM2r (a00 a01 a10 a11 : Int) : mulM [[a11, -a01], [-a10, a00]] [[a00, a01], [a10, a11]] 2 = scalM 2 (D2 a00 a01 a10 a11) := by
  show [[a11 * a00 + ((-a01) * a10 + 0), a11 * a01 + ((-a01) * a11 + 0)], [(-a10) * a00 + (a00 * a10 + 0), (-a10) * a01 + (a00 * a11 + 0)]] = _
  rw [scal_eq2]
  rw [adj2r00 a00 a01 a10 a11, adj2r01 a00 a01 a10 a11, adj2r10 a00 a01 a10 a11, adj2r11 a00 a01 a10 a11]
theorem mul_eq3 (a00 a01 a02 a10 a11 a12 a20 a21 a22 b00 b01 b02 b10 b11 b12 b20 b21 b22 : Int) : mulM [[a00, a01, a02], [a10, a11, a12], [a20, a21, a22]] [[b00, b01, b02], [b10, b11, b12], [b20, b21, b22]] 3 = [[a00 * b00 + (a01 * b10 + (a02 * b20 + 0)), a00 * b01 + (a01 * b11 + (a02 * b21 + 0)), a00 * b02 + (a01 * b12 + (a02 * b22 + 0))], [a10 * b00 + (a11 * b10 + (a12 * b20 + 0)), a10 * b01 + (a11 * b11 + (a12 * b21 + 0)), a10 * b02 + (a11 * b12 + (a12 * b22 + 0))], [a20 * b00 + (a21 * b10 + (a22 * b20 + 0)), a20 * b01 + (a21 * b11 + (a22 * b21 + 0)), a20 * b02 + (a21 * b12 + (a22 * b22 + 0))]] := rfl
set_option maxHeartbeats 40000000 in
theorem mulD3 (a00 a01 a02 a10 a11 a12 a20 a21 a22 b00 b01 b02 b10 b11 b12 b20 b21 b22 : Int) : D3 (a00 * b00 + (a01 * b10 + (a02 * b20 + 0))) (a00 * b01 + (a01 * b11 + (a02 * b21 + 0))) (a00 * b02 + (a01 * b12 + (a02 * b22 + 0))) (a10 * b00 + (a11 * b10 + (a12 * b20 + 0))) (a10 * b01 + (a11 * b11 + (a12 * b21 + 0))) (a10 * b02 + (a11 * b12 + (a12 * b22 + 0))) (a20 * b00 + (a21 * b10 + (a22 * b20 + 0))) (a20 * b01 + (a21 * b11 + (a22 * b21 + 0))) (a20 * b02 + (a21 * b12 + (a22 * b22 + 0))) = D3 a00 a01 a02 a10 a11 a12 a20 a21 a22 * D3 b00 b01 b02 b10 b11 b12 b20 b21 b22 := by
  unfold D3 D2
  grind
theorem tr_eq3 (a00 a01 a02 a10 a11 a12 a20 a21 a22 : Int) : transp [[a00, a01, a02], [a10, a11, a12], [a20, a21, a22]] 3 = [[a00, a10, a20], [a01, a11, a21], [a02, a12, a22]] := rfl
theorem trD3 (a00 a01 a02 a10 a11 a12 a20 a21 a22 : Int) : D3 a00 a10 a20 a01 a11 a21 a02 a12 a22 = D3 a00 a01 a02 a10 a11 a12 a20 a21 a22 := by
  unfold D3 D2
  grind
theorem due_eq3 (a00 a01 a02 a10 a11 a12 a20 a21 a22 : Int) : dueM 3 [[a00, a01, a02], [a10, a11, a12], [a20, a21, a22]] = [[D2 a11 a12 a21 a22, -D2 a01 a02 a21 a22, D2 a01 a02 a11 a12], [-D2 a10 a12 a20 a22, D2 a00 a02 a20 a22, -D2 a00 a02 a10 a12], [D2 a10 a11 a20 a21, -D2 a00 a01 a20 a21, D2 a00 a01 a10 a11]] := by
  show [[sgn (0 + 0) * detL 2 [[a11, a12], [a21, a22]], sgn (0 + 1) * detL 2 [[a01, a02], [a21, a22]], sgn (0 + 2) * detL 2 [[a01, a02], [a11, a12]]], [sgn (1 + 0) * detL 2 [[a10, a12], [a20, a22]], sgn (1 + 1) * detL 2 [[a00, a02], [a20, a22]], sgn (1 + 2) * detL 2 [[a00, a02], [a10, a12]]], [sgn (2 + 0) * detL 2 [[a10, a11], [a20, a21]], sgn (2 + 1) * detL 2 [[a00, a01], [a20, a21]], sgn (2 + 2) * detL 2 [[a00, a01], [a10, a11]]]] = _
  simp only [detL2]
  simp only [sgn_even (show (0 + 0) % 2 = 0 from rfl), sgn_odd (show (0 + 1) % 2 = 1 from rfl), sgn_even (show (0 + 2) % 2 = 0 from rfl), sgn_odd (show (1 + 0) % 2 = 1 from rfl), sgn_even (show (1 + 1) % 2 = 0 from rfl), sgn_odd (show (1 + 2) % 2 = 1 from rfl), sgn_even (show (2 + 0) % 2 = 0 from rfl), sgn_odd (show (2 + 1) % 2 = 1 from rfl), sgn_even (show (2 + 2) % 2 = 0 from rfl), Int.one_mul, Int.neg_mul]
theorem adj3l00 (a00 a01 a02 a10 a11 a12 a20 a21 a22 : Int) : a00 * (D2 a11 a12 a21 a22) + (a01 * (-D2 a10 a12 a20 a22) + (a02 * (D2 a10 a11 a20 a21) + 0)) = D3 a00 a01 a02 a10 a11 a12 a20 a21 a22 * 1 := by
  unfold D3 D2
  grind
theorem adj3l01 (a00 a01 a02 a10 a11 a12 a20 a21 a22 : Int) : a00 * (-D2 a01 a02 a21 a22) + (a01 * (D2 a00 a02 a20 a22) + (a02 * (-D2 a00 a01 a20 a21) + 0)) = D3 a00 a01 a02 a10 a11 a12 a20 a21 a22 * 0 := by
  unfold D3 D2
  grind
theorem adj3l02 (a00 a01 a02 a10 a11 a12 a20 a21 a22 : Int) : a00 * (D2 a01 a02 a11 a12) + (a01 * (-D2 a00 a02 a10 a12) + (a02 * (D2 a00 a01 a10 a11) + 0)) = D3 a00 a01 a02 a10 a11 a12 a20 a21 a22 * 0 := by
  unfold D3 D2
  grind
theorem adj3l10 (a00 a01 a02 a10 a11 a12 a20 a21 a22 : Int) : a10 * (D2 a11 a12 a21 a22) + (a11 * (-D2 a10 a12 a20 a22) + (a12 * (D2 a10 a11 a20 a21) + 0)) = D3 a00 a01 a02 a10 a11 a12 a20 a21 a22 * 0 := by
  unfold D3 D2
  grind
theorem adj3l11 (a00 a01 a02 a10 a11 a12 a20 a21 a22 : Int) : a10 * (-D2 a01 a02 a21 a22) + (a11 * (D2 a00 a02 a20 a22) + (a12 * (-D2 a00 a01 a20 a21) + 0)) = D3 a00 a01 a02 a10 a11 a12 a20 a21 a22 * 1 := by
  unfold D3 D2
  grind
theorem adj3l12 (a00 a01 a02 a10 a11 a12 a20 a21 a22 : Int) : a10 * (D2 a01 a02 a11 a12) + (a11 * (-D2 a00 a02 a10 a12) + (a12 * (D2 a00 a01 a10 a11) + 0)) = D3 a00 a01 a02 a10 a11 a12 a20 a21 a22 * 0 := by
  unfold D3 D2
  grind
theorem adj3l20 (a00 a01 a02 a10 a11 a12 a20 a21 a22 : Int) : a20 * (D2 a11 a12 a21 a22) + (a21 * (-D2 a10 a12 a20 a22) + (a22 * (D2 a10 a11 a20 a21) + 0)) = D3 a00 a01 a02 a10 a11 a12 a20 a21 a22 * 0 := by
  unfold D3 D2
  grind
theorem adj3l21 (a00 a01 a02 a10 a11 a12 a20 a21 a22 : Int) : a20 * (-D2 a01 a02 a21 a22) + (a21 * (D2 a00 a02 a20 a22) + (a22 * (-D2 a00 a01 a20 a21) + 0)) = D3 a00 a01 a02 a10 a11 a12 a20 a21 a22 * 0 := by
  unfold D3 D2
  grind
theorem adj3l22 (a00 a01 a02 a10 a11 a12 a20 a21 a22 : Int) : a20 * (D2 a01 a02 a11 a12) + (a21 * (-D2 a00 a02 a10 a12) + (a22 * (D2 a00 a01 a10 a11) + 0)) = D3 a00 a01 a02 a10 a11 a12 a20 a21 a22 * 1 := by
  unfold D3 D2
  grind
theorem adj3r00 (a00 a01 a02 a10 a11 a12 a20 a21 a22 : Int) : (D2 a11 a12 a21 a22) * a00 + ((-D2 a01 a02 a21 a22) * a10 + ((D2 a01 a02 a11 a12) * a20 + 0)) = D3 a00 a01 a02 a10 a11 a12 a20 a21 a22 * 1 := by
  unfold D3 D2
  grind
theorem adj3r01 (a00 a01 a02 a10 a11 a12 a20 a21 a22 : Int) : (D2 a11 a12 a21 a22) * a01 + ((-D2 a01 a02 a21 a22) * a11 + ((D2 a01 a02 a11 a12) * a21 + 0)) = D3 a00 a01 a02 a10 a11 a12 a20 a21 a22 * 0 := by
  unfold D3 D2
  grind
theorem adj3r02 (a00 a01 a02 a10 a11 a12 a20 a21 a22 : Int) : (D2 a11 a12 a21 a22) * a02 + ((-D2 a01 a02 a21 a22) * a12 + ((D2 a01 a02 a11 a12) * a22 + 0)) = D3 a00 a01 a02 a10 a11 a12 a20 a21 a22 * 0 := by
  unfold D3 D2
  grind
theorem adj3r10 (a00 a01 a02 a10 a11 a12 a20 a21 a22 : Int) : (-D2 a10 a12 a20 a22) * a00 + ((D2 a00 a02 a20 a22) * a10 + ((-D2 a00 a02 a10 a12) * a20 + 0)) = D3 a00 a01 a02 a10 a11 a12 a20 a21 a22 * 0 := by
  unfold D3 D2
  grind
theorem adj3r11 (a00 a01 a02 a10 a11 a12 a20 a21 a22 : Int) : (-D2 a10 a12 a20 a22) * a01 + ((D2 a00 a02 a20 a22) * a11 + ((-D2 a00 a02 a10 a12) * a21 + 0)) = D3 a00 a01 a02 a10 a11 a12 a20 a21 a22 * 1 := by
  unfold D3 D2
  grind
theorem adj3r12 (a00 a01 a02 a10 a11 a12 a20 a21 a22 : Int) : (-D2 a10 a12 a20 a22) * a02 + ((D2 a00 a02 a20 a22) * a12 + ((-D2 a00 a02 a10 a12) * a22 + 0)) = D3 a00 a01 a02 a10 a11 a12 a20 a21 a22 * 0 := by
  unfold D3 D2
  grind
theorem adj3r20 (a00 a01 a02 a10 a11 a12 a20 a21 a22 : Int) : (D2 a10 a11 a20 a21) * a00 + ((-D2 a00 a01 a20 a21) * a10 + ((D2 a00 a01 a10 a11) * a20 + 0)) = D3 a00 a01 a02 a10 a11 a12 a20 a21 a22 * 0 := by
  unfold D3 D2
  grind
theorem adj3r21 (a00 a01 a02 a10 a11 a12 a20 a21 a22 : Int) : (D2 a10 a11 a20 a21) * a01 + ((-D2 a00 a01 a20 a21) * a11 + ((D2 a00 a01 a10 a11) * a21 + 0)) = D3 a00 a01 a02 a10 a11 a12 a20 a21 a22 * 0 := by
  unfold D3 D2
  grind
theorem adj3r22 (a00 a01 a02 a10 a11 a12 a20 a21 a22 : Int) : (D2 a10 a11 a20 a21) * a02 + ((-D2 a00 a01 a20 a21) * a12 + ((D2 a00 a01 a10 a11) * a22 + 0)) = D3 a00 a01 a02 a10 a11 a12 a20 a21 a22 * 1 := by
  unfold D3 D2
  grind
theorem scal_eq3 (d : Int) : scalM 3 d = [[d * 1, d * 0, d * 0], [d * 0, d * 1, d * 0], [d * 0, d * 0, d * 1]] := rfl
theorem adjM3l (a00 a01 a02 a10 a11 a12 a20 a21 a22 : Int) : mulM [[a00, a01, a02], [a10, a11, a12], [a20, a21, a22]] [[D2 a11 a12 a21 a22, -D2 a01 a02 a21 a22, D2 a01 a02 a11 a12], [-D2 a10 a12 a20 a22, D2 a00 a02 a20 a22, -D2 a00 a02 a10 a12], [D2 a10 a11 a20 a21, -D2 a00 a01 a20 a21, D2 a00 a01 a10 a11]] 3 = scalM 3 (D3 a00 a01 a02 a10 a11 a12 a20 a21 a22) := by
  show [[a00 * (D2 a11 a12 a21 a22) + (a01 * (-D2 a10 a12 a20 a22) + (a02 * (D2 a10 a11 a20 a21) + 0)), a00 * (-D2 a01 a02 a21 a22) + (a01 * (D2 a00 a02 a20 a22) + (a02 * (-D2 a00 a01 a20 a21) + 0)), a00 * (D2 a01 a02 a11 a12) + (a01 * (-D2 a00 a02 a10 a12) + (a02 * (D2 a00 a01 a10 a11) + 0))], [a10 * (D2 a11 a12 a21 a22) + (a11 * (-D2 a10 a12 a20 a22) + (a12 * (D2 a10 a11 a20 a21) + 0)), a10 * (-D2 a01 a02 a21 a22) + (a11 * (D2 a00 a02 a20 a22) + (a12 * (-D2 a00 a01 a20 a21) + 0)), a10 * (D2 a01 a02 a11 a12) + (a11 * (-D2 a00 a02 a10 a12) + (a12 * (D2 a00 a01 a10 a11) + 0))], [a20 * (D2 a11 a12 a21 a22) + (a21 * (-D2 a10 a12 a20 a22) + (a22 * (D2 a10 a11 a20 a21) + 0)), a20 * (-D2 a01 a02 a21 a22) + (a21 * (D2 a00 a02 a20 a22) + (a22 * (-D2 a00 a01 a20 a21) + 0)), a20 * (D2 a01 a02 a11 a12) + (a21 * (-D2 a00 a02 a10 a12) + (a22 * (D2 a00 a01 a10 a11) + 0))]] = _
  rw [scal_eq3]
  rw [adj3l00 a00 a01 a02 a10 a11 a12 a20 a21 a22, adj3l01 a00 a01 a02 a10 a11 a12 a20 a21 a22, adj3l02 a00 a01 a02 a10 a11 a12 a20 a21 a22, adj3l10 a00 a01 a02 a10 a11 a12 a20 a21 a22, adj3l11 a00 a01 a02 a10 a11 a12 a20 a21 a22, adj3l12 a00 a01 a02 a10 a11 a12 a20 a21 a22, adj3l20 a00 a01 a02 a10 a11 a12 a20 a21 a22, adj3l21 a00 a01 a02 a10 a11 a12 a20 a21 a22, adj3l22 a00 a01 a02 a10 a11 a12 a20 a21 a22]
theorem adjM3r (a00 a01 a02 a10 a11 a12 a20 a21 a22 : Int) : mulM [[D2 a11 a12 a21 a22, -D2 a01 a02 a21 a22, D2 a01 a02 a11 a12], [-D2 a10 a12 a20 a22, D2 a00 a02 a20 a22, -D2 a00 a02 a10 a12], [D2 a10 a11 a20 a21, -D2 a00 a01 a20 a21, D2 a00 a01 a10 a11]] [[a00, a01, a02], [a10, a11, a12], [a20, a21, a22]] 3 = scalM 3 (D3 a00 a01 a02 a10 a11 a12 a20 a21 a22) := by
  show [[(D2 a11 a12 a21 a22) * a00 + ((-D2 a01 a02 a21 a22) * a10 + ((D2 a01 a02 a11 a12) * a20 + 0)), (D2 a11 a12 a21 a22) * a01 + ((-D2 a01 a02 a21 a22) * a11 + ((D2 a01 a02 a11 a12) * a21 + 0)), (D2 a11 a12 a21 a22) * a02 + ((-D2 a01 a02 a21 a22) * a12 + ((D2 a01 a02 a11 a12) * a22 + 0))], [(-D2 a10 a12 a20 a22) * a00 + ((D2 a00 a02 a20 a22) * a10 + ((-D2 a00 a02 a10 a12) * a20 + 0)), (-D2 a10 a12 a20 a22) * a01 + ((D2 a00 a02 a20 a22) * a11 + ((-D2 a00 a02 a10 a12) * a21 + 0)), (-D2 a10 a12 a20 a22) * a02 + ((D2 a00 a02 a20 a22) * a12 + ((-D2 a00 a02 a10 a12) * a22 + 0))], [(D2 a10 a11 a20 a21) * a00 + ((-D2 a00 a01 a20 a21) * a10 + ((D2 a00 a01 a10 a11) * a20 + 0)), (D2 a10 a11 a20 a21) * a01 + ((-D2 a00 a01 a20 a21) * a11 + ((D2 a00 a01 a10 a11) * a21 + 0)), (D2 a10 a11 a20 a21) * a02 + ((-D2 a00 a01 a20 a21) * a12 + ((D2 a00 a01 a10 a11) * a22 + 0))]] = _
  rw [scal_eq3]
  rw [adj3r00 a00 a01 a02 a10 a11 a12 a20 a21 a22, adj3r01 a00 a01 a02 a10 a11 a12 a20 a21 a22, adj3r02 a00 a01 a02 a10 a11 a12 a20 a21 a22, adj3r10 a00 a01 a02 a10 a11 a12 a20 a21 a22, adj3r11 a00 a01 a02 a10 a11 a12 a20 a21 a22, adj3r12 a00 a01 a02 a10 a11 a12 a20 a21 a22, adj3r20 a00 a01 a02 a10 a11 a12 a20 a21 a22, adj3r21 a00 a01 a02 a10 a11 a12 a20 a21 a22, adj3r22 a00 a01 a02 a10 a11 a12 a20 a21 a22]
theorem mul_eq4 (a00 a01 a02 a03 a10 a11 a12 a13 a20 a21 a22 a23 a30 a31 a32 a33 b00 b01 b02 b03 b10 b11 b12 b13 b20 b21 b22 b23 b30 b31 b32 b33 : Int) : mulM [[a00, a01, a02, a03], [a10, a11, a12, a13], [a20, a21, a22, a23], [a30, a31, a32, a33]] [[b00, b01, b02, b03], [b10, b11, b12, b13], [b20, b21, b22, b23], [b30, b31, b32, b33]] 4 = [[a00 * b00 + (a01 * b10 + (a02 * b20 + (a03 * b30 + 0))), a00 * b01 + (a01 * b11 + (a02 * b21 + (a03 * b31 + 0))), a00 * b02 + (a01 * b12 + (a02 * b22 + (a03 * b32 + 0))), a00 * b03 + (a01 * b13 + (a02 * b23 + (a03 * b33 + 0)))], [a10 * b00 + (a11 * b10 + (a12 * b20 + (a13 * b30 + 0))), a10 * b01 + (a11 * b11 + (a12 * b21 + (a13 * b31 + 0))), a10 * b02 + (a11 * b12 + (a12 * b22 + (a13 * b32 + 0))), a10 * b03 + (a11 * b13 + (a12 * b23 + (a13 * b33 + 0)))], [a20 * b00 + (a21 * b10 + (a22 * b20 + (a23 * b30 + 0))), a20 * b01 + (a21 * b11 + (a22 * b21 + (a23 * b31 + 0))), a20 * b02 + (a21 * b12 + (a22 * b22 + (a23 * b32 + 0))), a20 * b03 + (a21 * b13 + (a22 * b23 + (a23 * b33 + 0)))], [a30 * b00 + (a31 * b10 + (a32 * b20 + (a33 * b30 + 0))), a30 * b01 + (a31 * b11 + (a32 * b21 + (a33 * b31 + 0))), a30 * b02 + (a31 * b12 + (a32 * b22 + (a33 * b32 + 0))), a30 * b03 + (a31 * b13 + (a32 * b23 + (a33 * b33 + 0)))]] := rfl
set_option maxHeartbeats 40000000 in
theorem mulD4 (a00 a01 a02 a03 a10 a11 a12 a13 a20 a21 a22 a23 a30 a31 a32 a33 b00 b01 b02 b03 b10 b11 b12 b13 b20 b21 b22 b23 b30 b31 b32 b33 : Int) : D4 (a00 * b00 + (a01 * b10 + (a02 * b20 + (a03 * b30 + 0)))) (a00 * b01 + (a01 * b11 + (a02 * b21 + (a03 * b31 + 0)))) (a00 * b02 + (a01 * b12 + (a02 * b22 + (a03 * b32 + 0)))) (a00 * b03 + (a01 * b13 + (a02 * b23 + (a03 * b33 + 0)))) (a10 * b00 + (a11 * b10 + (a12 * b20 + (a13 * b30 + 0)))) (a10 * b01 + (a11 * b11 + (a12 * b21 + (a13 * b31 + 0)))) (a10 * b02 + (a11 * b12 + (a12 * b22 + (a13 * b32 + 0)))) (a10 * b03 + (a11 * b13 + (a12 * b23 + (a13 * b33 + 0)))) (a20 * b00 + (a21 * b10 + (a22 * b20 + (a23 * b30 + 0)))) (a20 * b01 + (a21 * b11 + (a22 * b21 + (a23 * b31 + 0)))) (a20 * b02 + (a21 * b12 + (a22 * b22 + (a23 * b32 + 0)))) (a20 * b03 + (a21 * b13 + (a22 * b23 + (a23 * b33 + 0)))) (a30 * b00 + (a31 * b10 + (a32 * b20 + (a33 * b30 + 0)))) (a30 * b01 + (a31 * b11 + (a32 * b21 + (a33 * b31 + 0)))) (a30 * b02 + (a31 * b12 + (a32 * b22 + (a33 * b32 + 0)))) (a30 * b03 + (a31 * b13 + (a32 * b23 + (a33 * b33 + 0)))) = D4 a00 a01 a02 a03 a10 a11 a12 a13 a20 a21 a22 a23 a30 a31 a32 a33 * D4 b00 b01 b02 b03 b10 b11 b12 b13 b20 b21 b22 b23 b30 b31 b32 b33 := by
  unfold D4 D3 D2
  grind
theorem tr_eq4 (a00 a01 a02 a03 a10 a11 a12 a13 a20 a21 a22 a23 a30 a31 a32 a33 : Int) : transp [[a00, a01, a02, a03], [a10, a11, a12, a13], [a20, a21, a22, a23], [a30, a31, a32, a33]] 4 = [[a00, a10, a20, a30], [a01, a11, a21, a31], [a02, a12, a22, a32], [a03, a13, a23, a33]] := rfl
theorem trD4 (a00 a01 a02 a03 a10 a11 a12 a13 a20 a21 a22 a23 a30 a31 a32 a33 : Int) : D4 a00 a10 a20 a30 a01 a11 a21 a31 a02 a12 a22 a32 a03 a13 a23 a33 = D4 a00 a01 a02 a03 a10 a11 a12 a13 a20 a21 a22 a23 a30 a31 a32 a33 := by
  unfold D4 D3 D2
  grind
theorem due_eq4 (a00 a01 a02 a03 a10 a11 a12 a13 a20 a21 a22 a23 a30 a31 a32 a33 : Int) : dueM 4 [[a00, a01, a02, a03], [a10, a11, a12, a13], [a20, a21, a22, a23], [a30, a31, a32, a33]] = [[D3 a11 a12 a13 a21 a22 a23 a31 a32 a33, -D3 a01 a02 a03 a21 a22 a23 a31 a32 a33, D3 a01 a02 a03 a11 a12 a13 a31 a32 a33, -D3 a01 a02 a03 a11 a12 a13 a21 a22 a23], [-D3 a10 a12 a13 a20 a22 a23 a30 a32 a33, D3 a00 a02 a03 a20 a22 a23 a30 a32 a33, -D3 a00 a02 a03 a10 a12 a13 a30 a32 a33, D3 a00 a02 a03 a10 a12 a13 a20 a22 a23], [D3 a10 a11 a13 a20 a21 a23 a30 a31 a33, -D3 a00 a01 a03 a20 a21 a23 a30 a31 a33, D3 a00 a01 a03 a10 a11 a13 a30 a31 a33, -D3 a00 a01 a03 a10 a11 a13 a20 a21 a23], [-D3 a10 a11 a12 a20 a21 a22 a30 a31 a32, D3 a00 a01 a02 a20 a21 a22 a30 a31 a32, -D3 a00 a01 a02 a10 a11 a12 a30 a31 a32, D3 a00 a01 a02 a10 a11 a12 a20 a21 a22]] := by
  show [[sgn (0 + 0) * detL 3 [[a11, a12, a13], [a21, a22, a23], [a31, a32, a33]], sgn (0 + 1) * detL 3 [[a01, a02, a03], [a21, a22, a23], [a31, a32, a33]], sgn (0 + 2) * detL 3 [[a01, a02, a03], [a11, a12, a13], [a31, a32, a33]], sgn (0 + 3) * detL 3 [[a01, a02, a03], [a11, a12, a13], [a21, a22, a23]]], [sgn (1 + 0) * detL 3 [[a10, a12, a13], [a20, a22, a23], [a30, a32, a33]], sgn (1 + 1) * detL 3 [[a00, a02, a03], [a20, a22, a23], [a30, a32, a33]], sgn (1 + 2) * detL 3 [[a00, a02, a03], [a10, a12, a13], [a30, a32, a33]], sgn (1 + 3) * detL 3 [[a00, a02, a03], [a10, a12, a13], [a20, a22, a23]]], [sgn (2 + 0) * detL 3 [[a10, a11, a13], [a20, a21, a23], [a30, a31, a33]], sgn (2 + 1) * detL 3 [[a00, a01, a03], [a20, a21, a23], [a30, a31, a33]], sgn (2 + 2) * detL 3 [[a00, a01, a03], [a10, a11, a13], [a30, a31, a33]], sgn (2 + 3) * detL 3 [[a00, a01, a03], [a10, a11, a13], [a20, a21, a23]]], [sgn (3 + 0) * detL 3 [[a10, a11, a12], [a20, a21, a22], [a30, a31, a32]], sgn (3 + 1) * detL 3 [[a00, a01, a02], [a20, a21, a22], [a30, a31, a32]], sgn (3 + 2) * detL 3 [[a00, a01, a02], [a10, a11, a12], [a30, a31, a32]], sgn (3 + 3) * detL 3 [[a00, a01, a02], [a10, a11, a12], [a20, a21, a22]]]] = _
  simp only [detL3]
  simp only [sgn_even (show (0 + 0) % 2 = 0 from rfl), sgn_odd (show (0 + 1) % 2 = 1 from rfl), sgn_even (show (0 + 2) % 2 = 0 from rfl), sgn_odd (show (0 + 3) % 2 = 1 from rfl), sgn_odd (show (1 + 0) % 2 = 1 from rfl), sgn_even (show (1 + 1) % 2 = 0 from rfl), sgn_odd (show (1 + 2) % 2 = 1 from rfl), sgn_even (show (1 + 3) % 2 = 0 from rfl), sgn_even (show (2 + 0) % 2 = 0 from rfl), sgn_odd (show (2 + 1) % 2 = 1 from rfl), sgn_even (show (2 + 2) % 2 = 0 from rfl), sgn_odd (show (2 + 3) % 2 = 1 from rfl), sgn_odd (show (3 + 0) % 2 = 1 from rfl), sgn_even (show (3 + 1) % 2 = 0 from rfl), sgn_odd (show (3 + 2) % 2 = 1 from rfl), sgn_even (show (3 + 3) % 2 = 0 from rfl), Int.one_mul, Int.neg_mul]
theorem adj4l00 (a00 a01 a02 a03 a10 a11 a12 a13 a20 a21 a22 a23 a30 a31 a32 a33 : Int) : a00 * (D3 a11 a12 a13 a21 a22 a23 a31 a32 a33) + (a01 * (-D3 a10 a12 a13 a20 a22 a23 a30 a32 a33) + (a02 * (D3 a10 a11 a13 a20 a21 a23 a30 a31 a33) + (a03 * (-D3 a10 a11 a12 a20 a21 a22 a30 a31 a32) + 0))) = D4 a00 a01 a02 a03 a10 a11 a12 a13 a20 a21 a22 a23 a30 a31 a32 a33 * 1 := by
  unfold D4 D3 D2
  grind
theorem adj4l01 (a00 a01 a02 a03 a10 a11 a12 a13 a20 a21 a22 a23 a30 a31 a32 a33 : Int) : a00 * (-D3 a01 a02 a03 a21 a22 a23 a31 a32 a33) + (a01 * (D3 a00 a02 a03 a20 a22 a23 a30 a32 a33) + (a02 * (-D3 a00 a01 a03 a20 a21 a23 a30 a31 a33) + (a03 * (D3 a00 a01 a02 a20 a21 a22 a30 a31 a32) + 0))) = D4 a00 a01 a02 a03 a10 a11 a12 a13 a20 a21 a22 a23 a30 a31 a32 a33 * 0 := by
  unfold D4 D3 D2
  grind
theorem adj4l02 (a00 a01 a02 a03 a10 a11 a12 a13 a20 a21 a22 a23 a30 a31 a32 a33 : Int) : a00 * (D3 a01 a02 a03 a11 a12 a13 a31 a32 a33) + (a01 * (-D3 a00 a02 a03 a10 a12 a13 a30 a32 a33) + (a02 * (D3 a00 a01 a03 a10 a11 a13 a30 a31 a33) + (a03 * (-D3 a00 a01 a02 a10 a11 a12 a30 a31 a32) + 0))) = D4 a00 a01 a02 a03 a10 a11 a12 a13 a20 a21 a22 a23 a30 a31 a32 a33 * 0 := by
  unfold D4 D3 D2
  grind
theorem adj4l03 (a00 a01 a02 a03 a10 a11 a12 a13 a20 a21 a22 a23 a30 a31 a32 a33 : Int) : a00 * (-D3 a01 a02 a03 a11 a12 a13 a21 a22 a23) + (a01 * (D3 a00 a02 a03 a10 a12 a13 a20 a22 a23) + (a02 * (-D3 a00 a01 a03 a10 a11 a13 a20 a21 a23) + (a03 * (D3 a00 a01 a02 a10 a11 a12 a20 a21 a22) + 0))) = D4 a00 a01 a02 a03 a10 a11 a12 a13 a20 a21 a22 a23 a30 a31 a32 a33 * 0 := by
  unfold D4 D3 D2
  grind
theorem adj4l10 (a00 a01 a02 a03 a10 a11 a12 a13 a20 a21 a22 a23 a30 a31 a32 a33 : Int) : a10 * (D3 a11 a12 a13 a21 a22 a23 a31 a32 a33) + (a11 * (-D3 a10 a12 a13 a20 a22 a23 a30 a32 a33) + (a12 * (D3 a10 a11 a13 a20 a21 a23 a30 a31 a33) + (a13 * (-D3 a10 a11 a12 a20 a21 a22 a30 a31 a32) + 0))) = D4 a00 a01 a02 a03 a10 a11 a12 a13 a20 a21 a22 a23 a30 a31 a32 a33 * 0 := by
  unfold D4 D3 D2
  grind
theorem adj4l11 (a00 a01 a02 a03 a10 a11 a12 a13 a20 a21 a22 a23 a30 a31 a32 a33 : Int) : a10 * (-D3 a01 a02 a03 a21 a22 a23 a31 a32 a33) + (a11 * (D3 a00 a02 a03 a20 a22 a23 a30 a32 a33) + (a12 * (-D3 a00 a01 a03 a20 a21 a23 a30 a31 a33) + (a13 * (D3 a00 a01 a02 a20 a21 a22 a30 a31 a32) + 0))) = D4 a00 a01 a02 a03 a10 a11 a12 a13 a20 a21 a22 a23 a30 a31 a32 a33 * 1 := by
  unfold D4 D3 D2
  grind
theorem adj4l12 (a00 a01 a02 a03 a10 a11 a12 a13 a20 a21 a22 a23 a30 a31 a32 a33 : Int) : a10 * (D3 a01 a02 a03 a11 a12 a13 a31 a32 a33) + (a11 * (-D3 a00 a02 a03 a10 a12 a13 a30 a32 a33) + (a12 * (D3 a00 a01 a03 a10 a11 a13 a30 a31 a33) + (a13 * (-D3 a00 a01 a02 a10 a11 a12 a30 a31 a32) + 0))) = D4 a00 a01 a02 a03 a10 a11 a12 a13 a20 a21 a22 a23 a30 a31 a32 a33 * 0 := by
  unfold D4 D3 D2
  grind
theorem adj4l13 (a00 a01 a02 a03 a10 a11 a12 a13 a20 a21 a22 a23 a30 a31 a32 a33 : Int) : a10 * (-D3 a01 a02 a03 a11 a12 a13 a21 a22 a23) + (a11 * (D3 a00 a02 a03 a10 a12 a13 a20 a22 a23) + (a12 * (-D3 a00 a01 a03 a10 a11 a13 a20 a21 a23) + (a13 * (D3 a00 a01 a02 a10 a11 a12 a20 a21 a22) + 0))) = D4 a00 a01 a02 a03 a10 a11 a12 a13 a20 a21 a22 a23 a30 a31 a32 a33 * 0 := by
  unfold D4 D3 D2
  grind
theorem adj4l20 (a00 a01 a02 a03 a10 a11 a12 a13 a20 a21 a22 a23 a30 a31 a32 a33 : Int) : a20 * (D3 a11 a12 a13 a21 a22 a23 a31 a32 a33) + (a21 * (-D3 a10 a12 a13 a20 a22 a23 a30 a32 a33) + (a22 * (D3 a10 a11 a13 a20 a21 a23 a30 a31 a33) + (a23 * (-D3 a10 a11 a12 a20 a21 a22 a30 a31 a32) + 0))) = D4 a00 a01 a02 a03 a10 a11 a12 a13 a20 a21 a22 a23 a30 a31 a32 a33 * 0 := by
  unfold D4 D3 D2
  grind
theorem adj4l21 (a00 a01 a02 a03 a10 a11 a12 a13 a20 a21 a22 a23 a30 a31 a32 a33 : Int) : a20 * (-D3 a01 a02 a03 a21 a22 a23 a31 a32 a33) + (a21 * (D3 a00 a02 a03 a20 a22 a23 a30 a32 a33) + (a22 * (-D3 a00 a01 a03 a20 a21 a23 a30 a31 a33) + (a23 * (D3 a00 a01 a02 a20 a21 a22 a30 a31 a32) + 0))) = D4 a00 a01 a02 a03 a10 a11 a12 a13 a20 a21 a22 a23 a30 a31 a32 a33 * 0 := by
  unfold D4 D3 D2
  grind
theorem adj4l22 (a00 a01 a02 a03 a10 a11 a12 a13 a20 a21 a22 a23 a30 a31 a32 a33 : Int) : a20 * (D3 a01 a02 a03 a11 a12 a13 a31 a32 a33) + (a21 * (-D3 a00 a02 a03 a10 a12 a13 a30 a32 a33) + (a22 * (D3 a00 a01 a03 a10 a11 a13 a30 a31 a33) + (a23 * (-D3 a00 a01 a02 a10 a11 a12 a30 a31 a32) + 0))) = D4 a00 a01 a02 a03 a10 a11 a12 a13 a20 a21 a22 a23 a30 a31 a32 a33 * 1 := by
  unfold D4 D3 D2
  grind
theorem adj4l23 (a00 a01 a02 a03 a10 a11 a12 a13 a20 a21 a22 a23 a30 a31 a32 a33 : Int) : a20 * (-D3 a01 a02 a03 a11 a12 a13 a21 a22 a23) + (a21 * (D3 a00 a02 a03 a10 a12 a13 a20 a22 a23) + (a22 * (-D3 a00 a01 a03 a10 a11 a13 a20 a21 a23) + (a23 * (D3 a00 a01 a02 a10 a11 a12 a20 a21 a22) + 0))) = D4 a00 a01 a02 a03 a10 a11 a12 a13 a20 a21 a22 a23 a30 a31 a32 a33 * 0 := by
  unfold D4 D3 D2
  grind
theorem adj4l30 (a00 a01 a02 a03 a10 a11 a12 a13 a20 a21 a22 a23 a30 a31 a32 a33 : Int) : a30 * (D3 a11 a12 a13 a21 a22 a23 a31 a32 a33) + (a31 * (-D3 a10 a12 a13 a20 a22 a23 a30 a32 a33) + (a32 * (D3 a10 a11 a13 a20 a21 a23 a30 a31 a33) + (a33 * (-D3 a10 a11 a12 a20 a21 a22 a30 a31 a32) + 0))) = D4 a00 a01 a02 a03 a10 a11 a12 a13 a20 a21 a22 a23 a30 a31 a32 a33 * 0 := by
  unfold D4 D3 D2
  grind
theorem adj4l31 (a00 a01 a02 a03 a10 a11 a12 a13 a20 a21 a22 a23 a30 a31 a32 a33 : Int) : a30 * (-D3 a01 a02 a03 a21 a22 a23 a31 a32 a33) + (a31 * (D3 a00 a02 a03 a20 a22 a23 a30 a32 a33) + (a32 * (-D3 a00 a01 a03 a20 a21 a23 a30 a31 a33) + (a33 * (D3 a00 a01 a02 a20 a21 a22 a30 a31 a32) + 0))) = D4 a00 a01 a02 a03 a10 a11 a12 a13 a20 a21 a22 a23 a30 a31 a32 a33 * 0 := by
  unfold D4 D3 D2
  grind
theorem adj4l32 (a00 a01 a02 a03 a10 a11 a12 a13 a20 a21 a22 a23 a30 a31 a32 a33 : Int) : a30 * (D3 a01 a02 a03 a11 a12 a13 a31 a32 a33) + (a31 * (-D3 a00 a02 a03 a10 a12 a13 a30 a32 a33) + (a32 * (D3 a00 a01 a03 a10 a11 a13 a30 a31 a33) + (a33 * (-D3 a00 a01 a02 a10 a11 a12 a30 a31 a32) + 0))) = D4 a00 a01 a02 a03 a10 a11 a12 a13 a20 a21 a22 a23 a30 a31 a32 a33 * 0 := by
  unfold D4 D3 D2
  grind
theorem adj4l33 (a00 a01 a02 a03 a10 a11 a12 a13 a20 a21 a22 a23 a30 a31 a32 a33 : Int) : a30 * (-D3 a01 a02 a03 a11 a12 a13 a21 a22 a23) + (a31 * (D3 a00 a02 a03 a10 a12 a13 a20 a22 a23) + (a32 * (-D3 a00 a01 a03 a10 a11 a13 a20 a21 a23) + (a33 * (D3 a00 a01 a02 a10 a11 a12 a20 a21 a22) + 0))) = D4 a00 a01 a02 a03 a10 a11 a12 a13 a20 a21 a22 a23 a30 a31 a32 a33 * 1 := by
  unfold D4 D3 D2
  grind
theorem adj4r00 (a00 a01 a02 a03 a10 a11 a12 a13 a20 a21 a22 a23 a30 a31 a32 a33 : Int) : (D3 a11 a12 a13 a21 a22 a23 a31 a32 a33) * a00 + ((-D3 a01 a02 a03 a21 a22 a23 a31 a32 a33) * a10 + ((D3 a01 a02 a03 a11 a12 a13 a31 a32 a33) * a20 + ((-D3 a01 a02 a03 a11 a12 a13 a21 a22 a23) * a30 + 0))) = D4 a00 a01 a02 a03 a10 a11 a12 a13 a20 a21 a22 a23 a30 a31 a32 a33 * 1 := by
  unfold D4 D3 D2
  grind
theorem adj4r01 (a00 a01 a02 a03 a10 a11 a12 a13 a20 a21 a22 a23 a30 a31 a32 a33 : Int) : (D3 a11 a12 a13 a21 a22 a23 a31 a32 a33) * a01 + ((-D3 a01 a02 a03 a21 a22 a23 a31 a32 a33) * a11 + ((D3 a01 a02 a03 a11 a12 a13 a31 a32 a33) * a21 + ((-D3 a01 a02 a03 a11 a12 a13 a21 a22 a23) * a31 + 0))) = D4 a00 a01 a02 a03 a10 a11 a12 a13 a20 a21 a22 a23 a30 a31 a32 a33 * 0 := by
  unfold D4 D3 D2
  grind
theorem adj4r02 (a00 a01 a02 a03 a10 a11 a12 a13 a20 a21 a22 a23 a30 a31 a32 a33 : Int) : (D3 a11 a12 a13 a21 a22 a23 a31 a32 a33) * a02 + ((-D3 a01 a02 a03 a21 a22 a23 a31 a32 a33) * a12 + ((D3 a01 a02 a03 a11 a12 a13 a31 a32 a33) * a22 + ((-D3 a01 a02 a03 a11 a12 a13 a21 a22 a23) * a32 + 0))) = D4 a00 a01 a02 a03 a10 a11 a12 a13 a20 a21 a22 a23 a30 a31 a32 a33 * 0 := by
  unfold D4 D3 D2
  grind
theorem adj4r03 (a00 a01 a02 a03 a10 a11 a12 a13 a20 a21 a22 a23 a30 a31 a32 a33 : Int) : (D3 a11 a12 a13 a21 a22 a23 a31 a32 a33) * a03 + ((-D3 a01 a02 a03 a21 a22 a23 a31 a32 a33) * a13 + ((D3 a01 a02 a03 a11 a12 a13 a31 a32 a33) * a23 + ((-D3 a01 a02 a03 a11 a12 a13 a21 a22 a23) * a33 + 0))) = D4 a00 a01 a02 a03 a10 a11 a12 a13 a20 a21 a22 a23 a30 a31 a32 a33 * 0 := by
  unfold D4 D3 D2
  grind
theorem adj4r10 (a00 a01 a02 a03 a10 a11 a12 a13 a20 a21 a22 a23 a30 a31 a32 a33 : Int) : (-D3 a10 a12 a13 a20 a22 a23 a30 a32 a33) * a00 + ((D3 a00 a02 a03 a20 a22 a23 a30 a32 a33) * a10 + ((-D3 a00 a02 a03 a10 a12 a13 a30 a32 a33) * a20 + ((D3 a00 a02 a03 a10 a12 a13 a20 a22 a23) * a30 + 0))) = D4 a00 a01 a02 a03 a10 a11 a12 a13 a20 a21 a22 a23 a30 a31 a32 a33 * 0 := by
  unfold D4 D3 D2
  grind
theorem adj4r11 (a00 a01 a02 a03 a10 a11 a12 a13 a20 a21 a22 a23 a30 a31 a32 a33 : Int) : (-D3 a10 a12 a13 a20 a22 a23 a30 a32 a33) * a01 + ((D3 a00 a02 a03 a20 a22 a23 a30 a32 a33) * a11 + ((-D3 a00 a02 a03 a10 a12 a13 a30 a32 a33) * a21 + ((D3 a00 a02 a03 a10 a12 a13 a20 a22 a23) * a31 + 0))) = D4 a00 a01 a02 a03 a10 a11 a12 a13 a20 a21 a22 a23 a30 a31 a32 a33 * 1 := by
  unfold D4 D3 D2
  grind
theorem adj4r12 (a00 a01 a02 a03 a10 a11 a12 a13 a20 a21 a22 a23 a30 a31 a32 a33 : Int) : (-D3 a10 a12 a13 a20 a22 a23 a30 a32 a33) * a02 + ((D3 a00 a02 a03 a20 a22 a23 a30 a32 a33) * a12 + ((-D3 a00 a02 a03 a10 a12 a13 a30 a32 a33) * a22 + ((D3 a00 a02 a03 a10 a12 a13 a20 a22 a23) * a32 + 0))) = D4 a00 a01 a02 a03 a10 a11 a12 a13 a20 a21 a22 a23 a30 a31 a32 a33 * 0 := by
  unfold D4 D3 D2
  grind
theorem adj4r13 (a00 a01 a02 a03 a10 a11 a12 a13 a20 a21 a22 a23 a30 a31 a32 a33 : Int) : (-D3 a10 a12 a13 a20 a22 a23 a30 a32 a33) * a03 + ((D3 a00 a02 a03 a20 a22 a23 a30 a32 a33) * a13 + ((-D3 a00 a02 a03 a10 a12 a13 a30 a32 a33) * a23 + ((D3 a00 a02 a03 a10 a12 a13 a20 a22 a23) * a33 + 0))) = D4 a00 a01 a02 a03 a10 a11 a12 a13 a20 a21 a22 a23 a30 a31 a32 a33 * 0 := by
  unfold D4 D3 D2
  grind
theorem adj4r20 (a00 a01 a02 a03 a10 a11 a12 a13 a20 a21 a22 a23 a30 a31 a32 a33 : Int) : (D3 a10 a11 a13 a20 a21 a23 a30 a31 a33) * a00 + ((-D3 a00 a01 a03 a20 a21 a23 a30 a31 a33) * a10 + ((D3 a00 a01 a03 a10 a11 a13 a30 a31 a33) * a20 + ((-D3 a00 a01 a03 a10 a11 a13 a20 a21 a23) * a30 + 0))) = D4 a00 a01 a02 a03 a10 a11 a12 a13 a20 a21 a22 a23 a30 a31 a32 a33 * 0 := by
  unfold D4 D3 D2
  grind
theorem adj4r21 (a00 a01 a02 a03 a10 a11 a12 a13 a20 a21 a22 a23 a30 a31 a32 a33 : Int) : (D3 a10 a11 a13 a20 a21 a23 a30 a31 a33) * a01 + ((-D3 a00 a01 a03 a20 a21 a23 a30 a31 a33) * a11 + ((D3 a00 a01 a03 a10 a11 a13 a30 a31 a33) * a21 + ((-D3 a00 a01 a03 a10 a11 a13 a20 a21 a23) * a31 + 0))) = D4 a00 a01 a02 a03 a10 a11 a12 a13 a20 a21 a22 a23 a30 a31 a32 a33 * 0 := by
  unfold D4 D3 D2
  grind
theorem adj4r22 (a00 a01 a02 a03 a10 a11 a12 a13 a20 a21 a22 a23 a30 a31 a32 a33 : Int) : (D3 a10 a11 a13 a20 a21 a23 a30 a31 a33) * a02 + ((-D3 a00 a01 a03 a20 a21 a23 a30 a31 a33) * a12 + ((D3 a00 a01 a03 a10 a11 a13 a30 a31 a33) * a22 + ((-D3 a00 a01 a03 a10 a11 a13 a20 a21 a23) * a32 + 0))) = D4 a00 a01 a02 a03 a10 a11 a12 a13 a20 a21 a22 a23 a30 a31 a32 a33 * 1 := by
  unfold D4 D3 D2
  grind
theorem adj4r23 (a00 a01 a02 a03 a10 a11 a12 a13 a20 a21 a22 a23 a30 a31 a32 a33 : Int) : (D3 a10 a11 a13 a20 a21 a23 a30 a31 a33) * a03 + ((-D3 a00 a01 a03 a20 a21 a23 a30 a31 a33) * a13 + ((D3 a00 a01 a03 a10 a11 a13 a30 a31 a33) * a23 + ((-D3 a00 a01 a03 a10 a11 a13 a20 a21 a23) * a33 + 0))) = D4 a00 a01 a02 a03 a10 a11 a12 a13 a20 a21 a22 a23 a30 a31 a32 a33 * 0 := by
  unfold D4 D3 D2
  grind
theorem adj4r30 (a00 a01 a02 a03 a10 a11 a12 a13 a20 a21 a22 a23 a30 a31 a32 a33 : Int) : (-D3 a10 a11 a12 a20 a21 a22 a30 a31 a32) * a00 + ((D3 a00 a01 a02 a20 a21 a22 a30 a31 a32) * a10 + ((-D3 a00 a01 a02 a10 a11 a12 a30 a31 a32) * a20 + ((D3 a00 a01 a02 a10 a11 a12 a20 a21 a22) * a30 + 0))) = D4 a00 a01 a02 a03 a10 a11 a12 a13 a20 a21 a22 a23 a30 a31 a32 a33 * 0 := by
  unfold D4 D3 D2
  grind
theorem adj4r31 (a00 a01 a02 a03 a10 a11 a12 a13 a20 a21 a22 a23 a30 a31 a32 a33 : Int) : (-D3 a10 a11 a12 a20 a21 a22 a30 a31 a32) * a01 + ((D3 a00 a01 a02 a20 a21 a22 a30 a31 a32) * a11 + ((-D3 a00 a01 a02 a10 a11 a12 a30 a31 a32) * a21 + ((D3 a00 a01 a02 a10 a11 a12 a20 a21 a22) * a31 + 0))) = D4 a00 a01 a02 a03 a10 a11 a12 a13 a20 a21 a22 a23 a30 a31 a32 a33 * 0 := by
  unfold D4 D3 D2
  grind
theorem adj4r32 (a00 a01 a02 a03 a10 a11 a12 a13 a20 a21 a22 a23 a30 a31 a32 a33 : Int) : (-D3 a10 a11 a12 a20 a21 a22 a30 a31 a32) * a02 + ((D3 a00 a01 a02 a20 a21 a22 a30 a31 a32) * a12 + ((-D3 a00 a01 a02 a10 a11 a12 a30 a31 a32) * a22 + ((D3 a00 a01 a02 a10 a11 a12 a20 a21 a22) * a32 + 0))) = D4 a00 a01 a02 a03 a10 a11 a12 a13 a20 a21 a22 a23 a30 a31 a32 a33 * 0 := by
  unfold D4 D3 D2
  grind
theorem adj4r33 (a00 a01 a02 a03 a10 a11 a12 a13 a20 a21 a22 a23 a30 a31 a32 a33 : Int) : (-D3 a10 a11 a12 a20 a21 a22 a30 a31 a32) * a03 + ((D3 a00 a01 a02 a20 a21 a22 a30 a31 a32) * a13 + ((-D3 a00 a01 a02 a10 a11 a12 a30 a31 a32) * a23 + ((D3 a00 a01 a02 a10 a11 a12 a20 a21 a22) * a33 + 0))) = D4 a00 a01 a02 a03 a10 a11 a12 a13 a20 a21 a22 a23 a30 a31 a32 a33 * 1 := by
  unfold D4 D3 D2
  grind
theorem scal_eq4 (d : Int) : scalM 4 d = [[d * 1, d * 0, d * 0, d * 0], [d * 0, d * 1, d * 0, d * 0], [d * 0, d * 0, d * 1, d * 0], [d * 0, d * 0, d * 0, d * 1]] := rfl
theorem adjM4l (a00 a01 a02 a03 a10 a11 a12 a13 a20 a21 a22 a23 a30 a31 a32 a33 : Int) : mulM [[a00, a01, a02, a03], [a10, a11, a12, a13], [a20, a21, a22, a23], [a30, a31, a32, a33]] [[D3 a11 a12 a13 a21 a22 a23 a31 a32 a33, -D3 a01 a02 a03 a21 a22 a23 a31 a32 a33, D3 a01 a02 a03 a11 a12 a13 a31 a32 a33, -D3 a01 a02 a03 a11 a12 a13 a21 a22 a23], [-D3 a10 a12 a13 a20 a22 a23 a30 a32 a33, D3 a00 a02 a03 a20 a22 a23 a30 a32 a33, -D3 a00 a02 a03 a10 a12 a13 a30 a32 a33, D3 a00 a02 a03 a10 a12 a13 a20 a22 a23], [D3 a10 a11 a13 a20 a21 a23 a30 a31 a33, -D3 a00 a01 a03 a20 a21 a23 a30 a31 a33, D3 a00 a01 a03 a10 a11 a13 a30 a31 a33, -D3 a00 a01 a03 a10 a11 a13 a20 a21 a23], [-D3 a10 a11 a12 a20 a21 a22 a30 a31 a32, D3 a00 a01 a02 a20 a21 a22 a30 a31 a32, -D3 a00 a01 a02 a10 a11 a12 a30 a31 a32, D3 a00 a01 a02 a10 a11 a12 a20 a21 a22]] 4 = scalM 4 (D4 a00 a01 a02 a03 a10 a11 a12 a13 a20 a21 a22 a23 a30 a31 a32 a33) := by
  show [[a00 * (D3 a11 a12 a13 a21 a22 a23 a31 a32 a33) + (a01 * (-D3 a10 a12 a13 a20 a22 a23 a30 a32 a33) + (a02 * (D3 a10 a11 a13 a20 a21 a23 a30 a31 a33) + (a03 * (-D3 a10 a11 a12 a20 a21 a22 a30 a31 a32) + 0))), a00 * (-D3 a01 a02 a03 a21 a22 a23 a31 a32 a33) + (a01 * (D3 a00 a02 a03 a20 a22 a23 a30 a32 a33) + (a02 * (-D3 a00 a01 a03 a20 a21 a23 a30 a31 a33) + (a03 * (D3 a00 a01 a02 a20 a21 a22 a30 a31 a32) + 0))), a00 * (D3 a01 a02 a03 a11 a12 a13 a31 a32 a33) + (a01 * (-D3 a00 a02 a03 a10 a12 a13 a30 a32 a33) + (a02 * (D3 a00 a01 a03 a10 a11 a13 a30 a31 a33) + (a03 * (-D3 a00 a01 a02 a10 a11 a12 a30 a31 a32) + 0))), a00 * (-D3 a01 a02 a03 a11 a12 a13 a21 a22 a23) + (a01 * (D3 a00 a02 a03 a10 a12 a13 a20 a22 a23) + (a02 * (-D3 a00 a01 a03 a10 a11 a13 a20 a21 a23) + (a03 * (D3 a00 a01 a02 a10 a11 a12 a20 a21 a22) + 0)))], [a10 * (D3 a11 a12 a13 a21 a22 a23 a31 a32 a33) + (a11 * (-D3 a10 a12 a13 a20 a22 a23 a30 a32 a33) + (a12 * (D3 a10 a11 a13 a20 a21 a23 a30 a31 a33) + (a13 * (-D3 a10 a11 a12 a20 a21 a22 a30 a31 a32) + 0))), a10 * (-D3 a01 a02 a03 a21 a22 a23 a31 a32 a33) + (a11 * (D3 a00 a02 a03 a20 a22 a23 a30 a32 a33) + (a12 * (-D3 a00 a01 a03 a20 a21 a23 a30 a31 a33) + (a13 * (D3 a00 a01 a02 a20 a21 a22 a30 a31 a32) + 0))), a10 * (D3 a01 a02 a03 a11 a12 a13 a31 a32 a33) + (a11 * (-D3 a00 a02 a03 a10 a12 a13 a30 a32 a33) + (a12 * (D3 a00 a01 a03 a10 a11 a13 a30 a31 a33) + (a13 * (-D3 a00 a01 a02 a10 a11 a12 a30 a31 a32) + 0))), a10 * (-D3 a01 a02 a03 a11 a12 a13 a21 a22 a23) + (a11 * (D3 a00 a02 a03 a10 a12 a13 a20 a22 a23) + (a12 * (-D3 a00 a01 a03 a10 a11 a13 a20 a21 a23) + (a13 * (D3 a00 a01 a02 a10 a11 a12 a20 a21 a22) + 0)))], [a20 * (D3 a11 a12 a13 a21 a22 a23 a31 a32 a33) + (a21 * (-D3 a10 a12 a13 a20 a22 a23 a30 a32 a33) + (a22 * (D3 a10 a11 a13 a20 a21 a23 a30 a31 a33) + (a23 * (-D3 a10 a11 a12 a20 a21 a22 a30 a31 a32) + 0))), a20 * (-D3 a01 a02 a03 a21 a22 a23 a31 a32 a33) + (a21 * (D3 a00 a02 a03 a20 a22 a23 a30 a32 a33) + (a22 * (-D3 a00 a01 a03 a20 a21 a23 a30 a31 a33) + (a23 * (D3 a00 a01 a02 a20 a21 a22 a30 a31 a32) + 0))), a20 * (D3 a01 a02 a03 a11 a12 a13 a31 a32 a33) + (a21 * (-D3 a00 a02 a03 a10 a12 a13 a30 a32 a33) + (a22 * (D3 a00 a01 a03 a10 a11 a13 a30 a31 a33) + (a23 * (-D3 a00 a01 a02 a10 a11 a12 a30 a31 a32) + 0))), a20 * (-D3 a01 a02 a03 a11 a12 a13 a21 a22 a23) + (a21 * (D3 a00 a02 a03 a10 a12 a13 a20 a22 a23) + (a22 * (-D3 a00 a01 a03 a10 a11 a13 a20 a21 a23) + (a23 * (D3 a00 a01 a02 a10 a11 a12 a20 a21 a22) + 0)))], [a30 * (D3 a11 a12 a13 a21 a22 a23 a31 a32 a33) + (a31 * (-D3 a10 a12 a13 a20 a22 a23 a30 a32 a33) + (a32 * (D3 a10 a11 a13 a20 a21 a23 a30 a31 a33) + (a33 * (-D3 a10 a11 a12 a20 a21 a22 a30 a31 a32) + 0))), a30 * (-D3 a01 a02 a03 a21 a22 a23 a31 a32 a33) + (a31 * (D3 a00 a02 a03 a20 a22 a23 a30 a32 a33) + (a32 * (-D3 a00 a01 a03 a20 a21 a23 a30 a31 a33) + (a33 * (D3 a00 a01 a02 a20 a21 a22 a30 a31 a32) + 0))), a30 * (D3 a01 a02 a03 a11 a12 a13 a31 a32 a33) + (a31 * (-D3 a00 a02 a03 a10 a12 a13 a30 a32 a33) + (a32 * (D3 a00 a01 a03 a10 a11 a13 a30 a31 a33) + (a33 * (-D3 a00 a01 a02 a10 a11 a12 a30 a31 a32) + 0))), a30 * (-D3 a01 a02 a03 a11 a12 a13 a21 a22 a23) + (a31 * (D3 a00 a02 a03 a10 a12 a13 a20 a22 a23) + (a32 * (-D3 a00 a01 a03 a10 a11 a13 a20 a21 a23) + (a33 * (D3 a00 a01 a02 a10 a11 a12 a20 a21 a22) + 0)))]] = _
  rw [scal_eq4]
  rw [adj4l00 a00 a01 a02 a03 a10 a11 a12 a13 a20 a21 a22 a23 a30 a31 a32 a33, adj4l01 a00 a01 a02 a03 a10 a11 a12 a13 a20 a21 a22 a23 a30 a31 a32 a33, adj4l02 a00 a01 a02 a03 a10 a11 a12 a13 a20 a21 a22 a23 a30 a31 a32 a33, adj4l03 a00 a01 a02 a03 a10 a11 a12 a13 a20 a21 a22 a23 a30 a31 a32 a33, adj4l10 a00 a01 a02 a03 a10 a11 a12 a13 a20 a21 a22 a23 a30 a31 a32 a33, adj4l11 a00 a01 a02 a03 a10 a11 a12 a13 a20 a21 a22 a23 a30 a31 a32 a33, adj4l12 a00 a01 a02 a03 a10 a11 a12 a13 a20 a21 a22 a23 a30 a31 a32 a33, adj4l13 a00 a01 a02 a03 a10 a11 a12 a13 a20 a21 a22 a23 a30 a31 a32 a33, adj4l20 a00 a01 a02 a03 a10 a11 a12 a13 a20 a21 a22 a23 a30 a31 a32 a33, adj4l21 a00 a01 a02 a03 a10 a11 a12 a13 a20 a21 a22 a23 a30 a31 a32 a33, adj4l22 a00 a01 a02 a03 a10 a11 a12 a13 a20 a21 a22 a23 a30 a31 a32 a33, adj4l23 a00 a01 a02 a03 a10 a11 a12 a13 a20 a21 a22 a23 a30 a31 a32 a33, adj4l30 a00 a01 a02 a03 a10 a11 a12 a13 a20 a21 a22 a23 a30 a31 a32 a33, adj4l31 a00 a01 a02 a03 a10 a11 a12 a13 a20 a21 a22 a23 a30 a31 a32 a33, adj4l32 a00 a01 a02 a03 a10 a11 a12 a13 a20 a21 a22 a23 a30 a31 a32 a33, adj4l33 a00 a01 a02 a03 a10 a11 a12 a13 a20 a21 a22 a23 a30 a31 a32 a33]
theorem adjM4r (a00 a01 a02 a03 a10 a11 a12 a13 a20 a21 a22 a23 a30 a31 a32 a33 : Int) : mulM [[D3 a11 a12 a13 a21 a22 a23 a31 a32 a33, -D3 a01 a02 a03 a21 a22 a23 a31 a32 a33, D3 a01 a02 a03 a11 a12 a13 a31 a32 a33, -D3 a01 a02 a03 a11 a12 a13 a21 a22 a23], [-D3 a10 a12 a13 a20 a22 a23 a30 a32 a33, D3 a00 a02 a03 a20 a22 a23 a30 a32 a33, -D3 a00 a02 a03 a10 a12 a13 a30 a32 a33, D3 a00 a02 a03 a10 a12 a13 a20 a22 a23], [D3 a10 a11 a13 a20 a21 a23 a30 a31 a33, -D3 a00 a01 a03 a20 a21 a23 a30 a31 a33, D3 a00 a01 a03 a10 a11 a13 a30 a31 a33, -D3 a00 a01 a03 a10 a11 a13 a20 a21 a23], [-D3 a10 a11 a12 a20 a21 a22 a30 a31 a32, D3 a00 a01 a02 a20 a21 a22 a30 a31 a32, -D3 a00 a01 a02 a10 a11 a12 a30 a31 a32, D3 a00 a01 a02 a10 a11 a12 a20 a21 a22]] [[a00, a01, a02, a03], [a10, a11, a12, a13], [a20, a21, a22, a23], [a30, a31, a32, a33]] 4 = scalM 4 (D4 a00 a01 a02 a03 a10 a11 a12 a13 a20 a21 a22 a23 a30 a31 a32 a33) := by
  show [[(D3 a11 a12 a13 a21 a22 a23 a31 a32 a33) * a00 + ((-D3 a01 a02 a03 a21 a22 a23 a31 a32 a33) * a10 + ((D3 a01 a02 a03 a11 a12 a13 a31 a32 a33) * a20 + ((-D3 a01 a02 a03 a11 a12 a13 a21 a22 a23) * a30 + 0))), (D3 a11 a12 a13 a21 a22 a23 a31 a32 a33) * a01 + ((-D3 a01 a02 a03 a21 a22 a23 a31 a32 a33) * a11 + ((D3 a01 a02 a03 a11 a12 a13 a31 a32 a33) * a21 + ((-D3 a01 a02 a03 a11 a12 a13 a21 a22 a23) * a31 + 0))), (D3 a11 a12 a13 a21 a22 a23 a31 a32 a33) * a02 + ((-D3 a01 a02 a03 a21 a22 a23 a31 a32 a33) * a12 + ((D3 a01 a02 a03 a11 a12 a13 a31 a32 a33) * a22 + ((-D3 a01 a02 a03 a11 a12 a13 a21 a22 a23) * a32 + 0))), (D3 a11 a12 a13 a21 a22 a23 a31 a32 a33) * a03 + ((-D3 a01 a02 a03 a21 a22 a23 a31 a32 a33) * a13 + ((D3 a01 a02 a03 a11 a12 a13 a31 a32 a33) * a23 + ((-D3 a01 a02 a03 a11 a12 a13 a21 a22 a23) * a33 + 0)))], [(-D3 a10 a12 a13 a20 a22 a23 a30 a32 a33) * a00 + ((D3 a00 a02 a03 a20 a22 a23 a30 a32 a33) * a10 + ((-D3 a00 a02 a03 a10 a12 a13 a30 a32 a33) * a20 + ((D3 a00 a02 a03 a10 a12 a13 a20 a22 a23) * a30 + 0))), (-D3 a10 a12 a13 a20 a22 a23 a30 a32 a33) * a01 + ((D3 a00 a02 a03 a20 a22 a23 a30 a32 a33) * a11 + ((-D3 a00 a02 a03 a10 a12 a13 a30 a32 a33) * a21 + ((D3 a00 a02 a03 a10 a12 a13 a20 a22 a23) * a31 + 0))), (-D3 a10 a12 a13 a20 a22 a23 a30 a32 a33) * a02 + ((D3 a00 a02 a03 a20 a22 a23 a30 a32 a33) * a12 + ((-D3 a00 a02 a03 a10 a12 a13 a30 a32 a33) * a22 + ((D3 a00 a02 a03 a10 a12 a13 a20 a22 a23) * a32 + 0))), (-D3 a10 a12 a13 a20 a22 a23 a30 a32 a33) * a03 + ((D3 a00 a02 a03 a20 a22 a23 a30 a32 a33) * a13 + ((-D3 a00 a02 a03 a10 a12 a13 a30 a32 a33) * a23 + ((D3 a00 a02 a03 a10 a12 a13 a20 a22 a23) * a33 + 0)))], [(D3 a10 a11 a13 a20 a21 a23 a30 a31 a33) * a00 + ((-D3 a00 a01 a03 a20 a21 a23 a30 a31 a33) * a10 + ((D3 a00 a01 a03 a10 a11 a13 a30 a31 a33) * a20 + ((-D3 a00 a01 a03 a10 a11 a13 a20 a21 a23) * a30 + 0))), (D3 a10 a11 a13 a20 a21 a23 a30 a31 a33) * a01 + ((-D3 a00 a01 a03 a20 a21 a23 a30 a31 a33) * a11 + ((D3 a00 a01 a03 a10 a11 a13 a30 a31 a33) * a21 + ((-D3 a00 a01 a03 a10 a11 a13 a20 a21 a23) * a31 + 0))), (D3 a10 a11 a13 a20 a21 a23 a30 a31 a33) * a02 + ((-D3 a00 a01 a03 a20 a21 a23 a30 a31 a33) * a12 + ((D3 a00 a01 a03 a10 a11 a13 a30 a31 a33) * a22 + ((-D3 a00 a01 a03 a10 a11 a13 a20 a21 a23) * a32 + 0))), (D3 a10 a11 a13 a20 a21 a23 a30 a31 a33) * a03 + ((-D3 a00 a01 a03 a20 a21 a23 a30 a31 a33) * a13 + ((D3 a00 a01 a03 a10 a11 a13 a30 a31 a33) * a23 + ((-D3 a00 a01 a03 a10 a11 a13 a20 a21 a23) * a33 + 0)))], [(-D3 a10 a11 a12 a20 a21 a22 a30 a31 a32) * a00 + ((D3 a00 a01 a02 a20 a21 a22 a30 a31 a32) * a10 + ((-D3 a00 a01 a02 a10 a11 a12 a30 a31 a32) * a20 + ((D3 a00 a01 a02 a10 a11 a12 a20 a21 a22) * a30 + 0))), (-D3 a10 a11 a12 a20 a21 a22 a30 a31 a32) * a01 + ((D3 a00 a01 a02 a20 a21 a22 a30 a31 a32) * a11 + ((-D3 a00 a01 a02 a10 a11 a12 a30 a31 a32) * a21 + ((D3 a00 a01 a02 a10 a11 a12 a20 a21 a22) * a31 + 0))), (-D3 a10 a11 a12 a20 a21 a22 a30 a31 a32) * a02 + ((D3 a00 a01 a02 a20 a21 a22 a30 a31 a32) * a12 + ((-D3 a00 a01 a02 a10 a11 a12 a30 a31 a32) * a22 + ((D3 a00 a01 a02 a10 a11 a12 a20 a21 a22) * a32 + 0))), (-D3 a10 a11 a12 a20 a21 a22 a30 a31 a32) * a03 + ((D3 a00 a01 a02 a20 a21 a22 a30 a31 a32) * a13 + ((-D3 a00 a01 a02 a10 a11 a12 a30 a31 a32) * a23 + ((D3 a00 a01 a02 a10 a11 a12 a20 a21 a22) * a33 + 0)))]] = _
  rw [scal_eq4]
  rw [adj4r00 a00 a01 a02 a03 a10 a11 a12 a13 a20 a21 a22 a23 a30 a31 a32 a33, adj4r01 a00 a01 a02 a03 a10 a11 a12 a13 a20 a21 a22 a23 a30 a31 a32 a33, adj4r02 a00 a01 a02 a03 a10 a11 a12 a13 a20 a21 a22 a23 a30 a31 a32 a33, adj4r03 a00 a01 a02 a03 a10 a11 a12 a13 a20 a21 a22 a23 a30 a31 a32 a33, adj4r10 a00 a01 a02 a03 a10 a11 a12 a13 a20 a21 a22 a23 a30 a31 a32 a33, adj4r11 a00 a01 a02 a03 a10 a11 a12 a13 a20 a21 a22 a23 a30 a31 a32 a33, adj4r12 a00 a01 a02 a03 a10 a11 a12 a13 a20 a21 a22 a23 a30 a31 a32 a33, adj4r13 a00 a01 a02 a03 a10 a11 a12 a13 a20 a21 a22 a23 a30 a31 a32 a33, adj4r20 a00 a01 a02 a03 a10 a11 a12 a13 a20 a21 a22 a23 a30 a31 a32 a33, adj4r21 a00 a01 a02 a03 a10 a11 a12 a13 a20 a21 a22 a23 a30 a31 a32 a33, adj4r22 a00 a01 a02 a03 a10 a11 a12 a13 a20 a21 a22 a23 a30 a31 a32 a33, adj4r23 a00 a01 a02 a03 a10 a11 a12 a13 a20 a21 a22 a23 a30 a31 a32 a33, adj4r30 a00 a01 a02 a03 a10 a11 a12 a13 a20 a21 a22 a23 a30 a31 a32 a33, adj4r31 a00 a01 a02 a03 a10 a11 a12 a13 a20 a21 a22 a23 a30 a31 a32 a33, adj4r32 a00 a01 a02 a03 a10 a11 a12 a13 a20 a21 a22 a23 a30 a31 a32 a33, adj4r33 a00 a01 a02 a03 a10 a11 a12 a13 a20 a21 a22 a23 a30 a31 a32 a33]

end
end K02
namespace K02
open PySem PySem.Spec PyProof.Rows L2 Gm
open C8 (Cal Met Mak pe_c pe_mt pe_mt0 pe_mk)
section
variable {P : Program} {w : World} {K : PySem.W.Frag} {mg : Str → Option Value} {base : Heap}
/-! ### what the law wants of determinants -/
theorem sz0 {m : List (List Int)} (h : Sz 0 m) : m = [] := List.eq_nil_of_length_eq_zero h.len
theorem mulM_sz {n : Nat} {a b : List (List Int)} (h : a.length = n) : Sz n (mulM a b n) := ⟨(mulM_len ..).trans h, mulM_row⟩
theorem transp_sz {n : Nat} {m : List (List Int)} (h : m.length = n) : Sz n (transp m n) := ⟨transp_len .., fun r hr => (transp_row r hr).trans h⟩
theorem det_mul {n : Nat} {a b : List (List Int)} (hn : n ≤ 4) (ha : Sz n a) (hb : Sz n b) : detL n (mulM a b n) = detL n a * detL n b := by
  match n, hn, ha, hb with
  | 0, _, _, _ => rfl
  | 1, _, ha, hb =>
    obtain ⟨x, rfl⟩ := sz1 ha
    obtain ⟨y, rfl⟩ := sz1 hb
    show detL 1 [[x * y + 0]] = _
    rw [detL1, detL1, detL1, Int.add_zero]
  | 2, _, ha, hb =>
    obtain ⟨_, _, _, _, rfl⟩ := sz2 ha
    obtain ⟨_, _, _, _, rfl⟩ := sz2 hb
    rw [mul_eq2, detL2, detL2, detL2, mulD2]
  | 3, _, ha, hb =>
    obtain ⟨_, _, _, _, _, _, _, _, _, rfl⟩ := sz3 ha
    obtain ⟨_, _, _, _, _, _, _, _, _, rfl⟩ := sz3 hb
    rw [mul_eq3, detL3, detL3, detL3, mulD3]
  | 4, _, ha, hb =>
    obtain ⟨_, _, _, _, _, _, _, _, _, _, _, _, _, _, _, _, rfl⟩ := sz4 ha
    obtain ⟨_, _, _, _, _, _, _, _, _, _, _, _, _, _, _, _, rfl⟩ := sz4 hb
    rw [mul_eq4, detL4, detL4, detL4, mulD4]
theorem det_tr {n : Nat} {m : List (List Int)} (hn : n ≤ 4) (h : Sz n m) : detL n (transp m n) = detL n m := by
  match n, hn, h with
  | 0, _, _ => rfl
  | 1, _, h =>
    obtain ⟨x, rfl⟩ := sz1 h
    rfl
  | 2, _, h =>
    obtain ⟨_, _, _, _, rfl⟩ := sz2 h
    rw [tr_eq2, detL2, detL2, trD2]
  | 3, _, h =>
    obtain ⟨_, _, _, _, _, _, _, _, _, rfl⟩ := sz3 h
    rw [tr_eq3, detL3, detL3, trD3]
  | 4, _, h =>
    obtain ⟨_, _, _, _, _, _, _, _, _, _, _, _, _, _, _, _, rfl⟩ := sz4 h
    rw [tr_eq4, detL4, detL4, trD4]
theorem mul_due {n : Nat} {m : List (List Int)} (hn : n ≤ 4) (h : Sz n m) : mulM m (dueM n m) n = scalM n (detL n m) := by
  match n, hn, h with
  | 0, _, h =>
    cases sz0 h
    rfl
  | 1, _, h =>
    obtain ⟨x, rfl⟩ := sz1 h
    show [[x * (sgn 0 * 1) + 0]] = [[detL 1 [[x]] * 1]]
    rw [detL1, sgn_even (show 0 % 2 = 0 from rfl), Int.add_zero, Int.one_mul]
  | 2, _, h =>
    obtain ⟨_, _, _, _, rfl⟩ := sz2 h
    rw [due_eq2, detL2, adjM2l]
  | 3, _, h =>
    obtain ⟨_, _, _, _, _, _, _, _, _, rfl⟩ := sz3 h
    rw [due_eq3, detL3, adjM3l]
  | 4, _, h =>
    obtain ⟨_, _, _, _, _, _, _, _, _, _, _, _, _, _, _, _, rfl⟩ := sz4 h
    rw [due_eq4, detL4, adjM4l]
theorem due_mul {n : Nat} {m : List (List Int)} (hn : n ≤ 4) (h : Sz n m) : mulM (dueM n m) m n = scalM n (detL n m) := by
  match n, hn, h with
  | 0, _, h =>
    cases sz0 h
    rfl
  | 1, _, h =>
    obtain ⟨x, rfl⟩ := sz1 h
    show [[(sgn 0 * 1) * x + 0]] = [[detL 1 [[x]] * 1]]
    rw [detL1, sgn_even (show 0 % 2 = 0 from rfl), Int.add_zero, Int.one_mul, Int.one_mul, Int.mul_one]
  | 2, _, h =>
    obtain ⟨_, _, _, _, rfl⟩ := sz2 h
    rw [due_eq2, detL2, adjM2r]
  | 3, _, h =>
    obtain ⟨_, _, _, _, _, _, _, _, _, rfl⟩ := sz3 h
    rw [due_eq3, detL3, adjM3r]
  | 4, _, h =>
    obtain ⟨_, _, _, _, _, _, _, _, _, _, _, _, _, _, _, _, rfl⟩ := sz4 h
    rw [due_eq4, detL4, adjM4r]
theorem adj_due {n B : Nat} {m : List (List Int)} (hn : n ≤ 4) (h : Sq n B m) : adjM (n - 1) m = dueM n m := by
  unfold adjM dueM
  rw [h.len]
  refine List.map_congr_left fun i hi => List.map_congr_left fun k hk => ?_
  have hi' := List.mem_range.mp hi
  have hk' := List.mem_range.mp hk
  match n, hn, h, hi', hk' with
  | n + 1, hn, h, hi', hk' =>
    show sminor n m k i = sgn (i + k) * detL n (cutM m k i)
    unfold sminor
    rw [bare_det (by omega) (cutM_sq h hk' hi').sz]
    by_cases e : (k + i) % 2 = 1
    · rw [if_pos e, sgn_odd (by omega)]
      omega
    · rw [if_neg e, sgn_even (by omega)]
      omega
/-- the items of the adjugate -/
theorem due_bits {n B : Nat} {m : List (List Int)} (hn : n ≤ 4) (hB : B ≤ 1200000) (h : Sq n B m) : ∀ r ∈ dueM n m, Bits 5000000 r := by
  intro r hr x hx
  unfold dueM at hr
  obtain ⟨i, hi, rfl⟩ := List.mem_map.mp hr
  obtain ⟨k, hk, rfl⟩ := List.mem_map.mp hx
  have hi' := List.mem_range.mp hi
  have hk' := List.mem_range.mp hk
  match n, hn, h, hi', hk' with
  | n + 1, hn, h, hi', hk' =>
    show (sgn (i + k) * detL n (cutM m k i)).natAbs < 2 ^ 5000000
    have h1 : (sgn (i + k)).natAbs = 1 := by
      unfold sgn
      omega
    rw [Int.natAbs_mul, h1, Nat.one_mul]
    refine Nat.lt_of_lt_of_le (detL_le (by omega) (cutM_sq h hk' hi')) (Nat.pow_le_pow_right (by decide) ?_)
    have : n * (B + 8) ≤ 3 * (1200000 + 8) := Nat.mul_le_mul (by omega) (by omega)
    omega
theorem due_len (n : Nat) (m : List (List Int)) : (dueM n m).length = n := by
  unfold dueM
  rw [List.length_map, List.length_range]
theorem due_row {n : Nat} {m : List (List Int)} : ∀ r ∈ dueM n m, r.length = n := fun r hr => by
  unfold dueM at hr
  obtain ⟨i, _, rfl⟩ := List.mem_map.mp hr
  rw [List.length_map, List.length_range]

end
end K02
namespace K02
open PySem PySem.Spec PyProof.Rows L2 Gm
open C8 (Cal Met Mak pe_c pe_mt pe_mt0 pe_mk)
section
variable {P : Program} {w : World} {K : PySem.W.Frag} {mg : Str → Option Value} {base : Heap}
/-! ### data for the law's comparisons -/
theorem bits_of {z : Int} {b : Nat} (h : Builtin.Int.intBits z ≤ b) : z.natAbs < 2 ^ b := by
  unfold Builtin.Int.intBits at h
  split at h
  · rename_i e
    rw [eq_of_beq e]
    exact Nat.two_pow_pos b
  · exact Nat.lt_of_lt_of_le (Nat.lt_log2_self) (Nat.pow_le_pow_right (by decide) h)
theorem small_bits {m : List (List Int)} {M B : Nat} (h : ∀ r ∈ m, ∀ x ∈ r, x.natAbs ≤ M) (hM : M < 2 ^ B) : ∀ r ∈ m, Bits B r := fun r hr x hx => Nat.lt_of_le_of_lt (h r hr x hx) hM
theorem dot_bits {B1 B2 : Nat} {xs ys : List Int} (h1 : Bits B1 xs) (h2 : Bits B2 ys) (hl : xs.length ≤ 4) : (dotI xs ys).natAbs < 2 ^ (B1 + B2 + 3) := by
  have h : (dotI xs ys).natAbs ≤ (List.zipWith (· * ·) xs ys).length * (2 ^ B1 * 2 ^ B2) := by
    refine sum_le fun z hz => ?_
    obtain ⟨k, hk⟩ := List.getElem?_of_mem hz
    rw [List.getElem?_zipWith] at hk
    cases e1 : xs[k]? with
    | none => rw [e1] at hk; cases hk
    | some a =>
      cases e2 : ys[k]? with
      | none => rw [e1, e2] at hk; cases hk
      | some b =>
        rw [e1, e2] at hk
        rw [← Option.some.inj hk, Int.natAbs_mul]
        exact Nat.mul_le_mul (Nat.le_of_lt (h1.at e1)) (Nat.le_of_lt (h2.at e2))
  have h3 : (List.zipWith (· * ·) xs ys).length ≤ 4 := by
    rw [List.length_zipWith]
    omega
  have h4 : (List.zipWith (· * ·) xs ys).length * (2 ^ B1 * 2 ^ B2) ≤ 4 * (2 ^ B1 * 2 ^ B2) := Nat.mul_le_mul_right _ h3
  have h5 : 2 ^ (B1 + B2 + 3) = 8 * (2 ^ B1 * 2 ^ B2) := by
    rw [Nat.pow_add, Nat.pow_add, Nat.mul_comm]
  have h6 : 0 < 2 ^ B1 * 2 ^ B2 := Nat.mul_pos (Nat.two_pow_pos _) (Nat.two_pow_pos _)
  omega
theorem mul_sq {n B1 B2 : Nat} {a b : List (List Int)} (hn : n ≤ 4) (ha : Sq n B1 a) (hb : Sq n B2 b) : Sq n (B1 + B2 + 3) (mulM a b n) := by
  refine ⟨(mulM_len ..).trans ha.len, mulM_row, fun r hr => ?_⟩
  obtain ⟨x, hx, rfl⟩ := List.mem_map.mp hr
  intro z hz
  obtain ⟨c, hc, rfl⟩ := List.mem_map.mp hz
  exact dot_bits (ha.bits x hx) (transp_bits hb.row hb.bits c hc) (by rw [ha.row x hx]; exact hn)
theorem tr_sq {n B : Nat} {m : List (List Int)} (h : Sq n B m) : Sq n B (transp m n) := ⟨transp_len .., fun r hr => (transp_row r hr).trans h.len, transp_bits h.row h.bits⟩
def pdR (r : List Int) : PyData := .tuple (r.map .int)
def pdM (m : List (List Int)) : PyData := .tuple (m.map pdR)
theorem dp_ints {K : PySem.W.Frag} {H : Hp} : ∀ r : List Int, DpAll K H (r.map V.int) (r.map PyData.int)
  | [] => .nil
  | _ :: r => .cons (.int _) (dp_ints r)
theorem dp_row {K : PySem.W.Frag} {H : Hp} {v : V} {r : List Int} (h : TRow K H v r) : Dp K H v (pdR r) := by
  obtain ⟨a, rfl, hs⟩ := h
  exact .tup hs (dp_ints r)
theorem dp_paired {K : PySem.W.Frag} {H : Hp} : ∀ {vs : List V} {m : List (List Int)}, Paired (TRow K H) vs m → DpAll K H vs (m.map pdR)
  | _, _, .nil => .nil
  | _, _, .cons r t => .cons (dp_row r) (dp_paired t)
theorem dp_rows {K : PySem.W.Frag} {H : Hp} {v : V} {m : List (List Int)} (h : TRows K H v m) : Dp K H v (pdM m) := by
  obtain ⟨a, vs, rfl, hs, hp⟩ := h
  exact .tup hs (dp_paired hp)
theorem lay_ints : ∀ r : List Int, PyData.canLayAll0 (r.map PyData.int) = true
  | [] => by simp [PyData.canLayAll0]
  | _ :: r => by simp [PyData.canLayAll0, PyData.canLay0, lay_ints r]
theorem lay_rows : ∀ m : List (List Int), PyData.canLayAll0 (m.map pdR) = true
  | [] => by simp [PyData.canLayAll0]
  | r :: m => by simp [PyData.canLayAll0, PyData.canLay0, pdR, lay_rows m, lay_ints r]
theorem lay_pdM (m : List (List Int)) : (pdM m).canLay0 = true := by simp [pdM, PyData.canLay0, lay_rows m]
theorem dep_ints : ∀ r : List Int, PyData.depthAll (r.map PyData.int) = 0
  | [] => by simp [PyData.depthAll]
  | _ :: r => by simp [PyData.depthAll, PyData.depth, dep_ints r]
theorem dep_rows : ∀ m : List (List Int), PyData.depthAll (m.map pdR) ≤ 1
  | [] => by simp [PyData.depthAll]
  | r :: m => by
    have := dep_rows m
    simp only [List.map_cons, PyData.depthAll, PyData.depth, pdR, dep_ints r]
    omega
theorem shaped_pdM (m : List (List Int)) : SeqAt.shaped (pdM m) = true := by
  unfold SeqAt.shaped
  rw [Bool.and_eq_true, lay_pdM]
  refine ⟨rfl, decide_eq_true ?_⟩
  have := dep_rows m
  simp only [pdM, PyData.depth]
  omega
/-- equal tables are equal -/
theorem ne_rows {K : PySem.W.Frag} {H : Hp} {v u : V} {m1 m2 : List (List Int)} {Q : VK} (h1 : TRows K H v m1) (h2 : TRows K H u m2) (e : m1 = m2) (q : Q (.bl false) H) : rNeD K v u H Q := by
  subst e
  refine ⟨pdM m1, pdM m1, dp_rows h1, dp_rows h2, shaped_pdM _, shaped_pdM _, ?_⟩
  rw [PySem.SeqAt.eqv_refl _ (lay_pdM m1)]
  exact q

end
end K02
namespace K02
open PySem PySem.Spec PyProof.Rows L2 Gm
open C8 (Cal Met Mak pe_c pe_mt pe_mt0 pe_mk)
section
variable {P : Program} {w : World} {K : PySem.W.Frag} {mg : Str → Option Value} {base : Heap}
/-! ### law -/
theorem StAt.ref {H : Hp} {p : Addr} (h : StAt H p) : ∃ l, H p = some (.lst l) := let ⟨_, _, e, _⟩ := h; ⟨_, e⟩
def sp_law (K : PySem.W.Frag) : Sp := fun vs H Q _ => ∃ (a : Addr) (ns : List Int), vs = [.ref a] ∧ SqL K H a (ns.map V.int) ∧ ns.length ≤ 63 ∧ (∀ z ∈ ns, Builtin.Int.intBits z ≤ 1048576) ∧ ∀ H', Q (.bl true) H'
theorem sqL_off {K : PySem.W.Frag} {H0 H H' : Hp} {a p : Addr} {xs : List V} (n : H0 p = none) (h0 : SqL K H0 a xs) (o : Off p H H') (h : SqL K H a xs) : SqL K H' a xs := by
  by_cases e : a = p
  · subst e
    rcases h0 with (h0 | ⟨_, h0⟩) | h0
    · rw [n] at h0; cases h0
    · rw [n] at h0; cases h0
    · exact .inr h0
  · rcases h with (h | ⟨u, h⟩) | h
    · exact .inl (.inl (o _ _ e h))
    · exact .inl (.inr ⟨u, o _ _ e h⟩)
    · exact .inr h
theorem make_grid2 {K : PySem.W.Frag} {C x dx : Addr} {H1 : Hp} {v : V} {m : List (List Int)} {w : Nat} {Q : VK} {E : XK} (nx : H1 x = none) (nd : H1 dx = none) (hm : IRows K H1 v m) (hl : m.length ≤ 1000) (hw : w ≤ 1000) (hrw : ∀ r ∈ m, r.length = w) (q : ∀ H', Same H1 H' → IsGrid K C H' (.ref x) m w → Q .non H') :
    sp_Grid_init K C [.ref x, v, .int w] (upd (upd H1 dx (.own x)) x (.ins C dx [])) Q E := by
  have s0 : Same H1 (upd (upd H1 dx (.own x)) x (.ins C dx [])) := fun b o e => by
    rw [upd_ne (ne_of_none e nx), upd_ne (ne_of_none e nd)]
    exact e
  refine ⟨x, dx, v, m, w, rfl, upd_same, hm.same s0, hl, hw, hrw, fun t H' o ho ht => ?_⟩
  exact q _ (fun b u e => o _ _ (ne_of_none e nx) (s0 _ _ e)) ⟨⟨x, dx, t, rfl, ho, ht⟩, hrw⟩
theorem TRows.seqS {K : PySem.W.Frag} {H : Hp} {v : V} {m : List (List Int)} (h : TRows K H v m) : SRows K H v m := let ⟨a, ws, e, s, p⟩ := h; ⟨a, ws, e, .inr s, p⟩
theorem det_bits {n B W : Nat} {m : List (List Int)} (hn : n ≤ 4) (hB : B ≤ 1200000) (hW : W = 5000000) (h : Sq n B m) : (detL n m).natAbs < 2 ^ W := by
  refine Nat.lt_of_lt_of_le (detL_le (by omega) h) (Nat.pow_le_pow_right (by decide) ?_)
  have : n * (B + 8) ≤ 4 * (1200000 + 8) := Nat.mul_le_mul hn (by omega)
  omega
theorem paired_erase {α β : Type} {F : α → β → Prop} : ∀ {xs : List α} {ys : List β} (k : Nat), Paired F xs ys → Paired F (xs.eraseIdx k) (ys.eraseIdx k)
  | _, _, _, .nil => .nil
  | _, _, 0, .cons _ t => t
  | _, _, k + 1, .cons r t => .cons r (paired_erase k t)
theorem cutM_sq' {n B : Nat} {m : List (List Int)} (h : Sq n B m) {i j : Nat} (hi : i < n) (hj : j < n) : Sq (n - 1) B (cutM m i j) := by
  match n, h, hi, hj with
  | n + 1, h, hi, hj => exact cutM_sq h hi hj
theorem abs_one (d : Int) : decide (d.natAbs = 1) = decide (V.int (if d < 0 then -d else d) = V.int 1) := by
  by_cases h : d.natAbs = 1
  · rw [decide_eq_true h]
    symm
    refine decide_eq_true (congrArg V.int ?_)
    split <;> omega
  · rw [decide_eq_false h]
    symm
    refine decide_eq_false fun z => h ?_
    have := V.int.inj z
    split at this <;> omega
def onesM (n : Nat) : List (List Int) := List.replicate n (List.replicate (n + 1) 1)
theorem Sq.mono {n B B' : Nat} {m : List (List Int)} (h : Sq n B m) (hB : B ≤ B') : Sq n B' m := ⟨h.len, h.row, fun r hr x hx => Nat.lt_of_lt_of_le (h.bits r hr x hx) (Nat.pow_le_pow_right (by decide) hB)⟩
theorem ok_law (T : Top K mg) (hN : base.NoSeer) (hT : P.given.tree = none) : FnOk P w K mg base CX0 48 T.a_law T.d_law ["script"] (sp_law K) := by
  refine T.F_law.ok sc_law (fun vs H Q E h => ?_) (fun cdv A outer s H vs Q E hr h => ?_)
  · obtain ⟨a, ns, rfl, _⟩ := h
    rfl
  · obtain ⟨a0, ns, rfl, hsc, hl, hb, q⟩ := h
    refine ⟨_, (pss_cons (ps_set (i := 1) sc_law.nd rfl (by first | exact .inl rfl | exact .inr rfl) (pe_c (cal_law_state T hN hT) hr (by decide) (by rfl) (pa_cons (pv 0) pa_nil)))
      (pss_cons (ps_set (i := 2) sc_law.nd rfl (by first | exact .inl rfl | exact .inr rfl) (pe_c (cal_law_take T hN hT) hr (by decide) (by rfl) (pa_cons (pv 1) (pa_cons pe_int pa_nil))))
      (pss_cons (ps_set (i := 3) sc_law.nd rfl (by first | exact .inl rfl | exact .inr rfl) (pe_c (cal_law_rows T hN hT) hr (by decide) (by rfl) (pa_cons (pv 1) (pa_cons (pv 2) (pa_cons (pv 2) (pa_cons pe_int pa_nil))))))
      (pss_cons (ps_set (i := 4) sc_law.nd rfl (by first | exact .inl rfl | exact .inr rfl) (pe_c (cal_law_rows T hN hT) hr (by decide) (by rfl) (pa_cons (pv 1) (pa_cons (pv 2) (pa_cons (pv 2) (pa_cons pe_int pa_nil))))))
      (C8.pss_cut (ps_if (PW.pt (pw_and (pt_cmpR op_gt (pv 2) pe_int (nomark _)) (pw_and1 (pt_cmpR op_eq (pe_c (cal_law_take T hN hT) hr (by decide) (by rfl) (pa_cons (pv 1) (pa_cons pe_int pa_nil))) pe_int (nomark _)))))
      (pss_one (ps_set (i := 3) sc_law.nd rfl (by first | exact .inl rfl | exact .inr rfl) (pe_op (catK K rfl) (pe_tup (pa_cons (pe_op (catK K rfl) (pe_tup (pa_cons (pe_c (cal_law_cell T hN hT) hr (by decide) (by rfl) (pa_cons (pv 0) (pa_cons pe_int pa_nil))) pa_nil)) (pe_slice (slTK K rfl) (pe_ix (ixT K rfl) (pv 3) pe_int (fun _ _ => rfl)) (po_some pe_int) po_none)) pa_nil)) (pe_slice (slTK K rfl) (pv 3) (po_some pe_int) po_none))))
      pss_nil)
      (pss_cons (ps_par (i := 5) (j := 6) (by rfl) sc_law.nd rfl rfl (by decide) rfl rfl (pa_cons (pe_mk (mak_Grid T hN hT) hr (by decide) (by rfl) (pa_cons (pv 3) (pa_cons (pv 2) pa_nil))) (pa_cons (pe_mk (mak_Grid T hN hT) hr (by decide) (by rfl) (pa_cons (pv 4) (pa_cons (pv 2) pa_nil))) pa_nil)) (by rfl))
      (pss_cons (ps_asg (pe_tup (pa_cons (pe_c (cal_law_determinant T hN hT) hr (by decide) (by rfl) (pa_cons (pv 3) pa_nil)) (pa_cons (pe_c (cal_law_determinant T hN hT) hr (by decide) (by rfl) (pa_cons (pv 4) pa_nil)) pa_nil))) (pg_tup rfl (pgs_cons (pg_name (i := 7) sc_law.nd rfl (by first | exact .inl rfl | exact .inr rfl)) (pgs_cons (pg_name (i := 8) sc_law.nd rfl (by first | exact .inl rfl | exact .inr rfl)) pgs_nil))))
      (pss_cons (ps_if (PW.pt (pw_or (pt_cmpR op_ne (pe_mt0 (met_Grid_determinant T hN hT) hr (by decide) (pv 5)) (pv 7) (nomark _)) (pw_or (pt_val (pe_callB (isiK K rfl) (by rfl) T.z_isinstance (by decide +kernel) (pa_cons (pe_mt0 (met_Grid_determinant T hN hT) hr (by decide) (pv 5)) (pa_cons (pe_bltn (v := .ty "bool") (by rfl) T.z_bool (by decide +kernel) rfl) pa_nil)))) (pw_or (pt_cmpR op_ne (pe_mt0 (met_Grid_determinant T hN hT) hr (by decide) (pe_op ((op_ownBin (op := .Mult) (E := L2.E0) T.sf_Grid T.m_Grid_mul.at_ T.m_Grid_mul.fn (ok_Grid_mul T hN hT) (hr.mono (by decide)) T.b_Grid_mul pass0)) (pv 5) (pv 6))) (pe_op op_mulX (pv 7) (pv 8)) (nomark _)) (pw_or1 (pt_cmpR op_ne (pe_mt0 (met_Grid_determinant T hN hT) hr (by decide) (pe_mt0 (met_Grid_transposed T hN hT) hr (by decide) (pv 5))) (pv 7) (nomark _)))))))
      (pss_one (ps_ret pe_bl))
      pss_nil)
      (pss_cons (ps_set (i := 9) sc_law.nd rfl (by first | exact .inl rfl | exact .inr rfl) (pe_mt0 (met_Grid_adjugate T hN hT) hr (by decide) (pv 5)))
      (pss_cons (ps_if (pt_not (pt_val (pe_c (cal_law_is_rows T hN hT) hr (by decide) (by rfl) (pa_cons (pv 9) (pa_cons (pv 2) (pa_cons (pv 2) pa_nil))))))
      (pss_one (ps_ret pe_bl))
      pss_nil)
      (pss_cons (ps_set (i := 10) sc_law.nd rfl (by first | exact .inl rfl | exact .inr rfl) (pe_lst pa_nil))
      (pss_cons (ps_for PassesOwn.never rfl (pi_range1 (by rfl) T.z_range (pa_cons (pv 2) pa_nil)) (pg_name (i := 11) sc_law.nd rfl (by first | exact .inl rfl | exact .inr rfl))
      (pss_cons (ps_set (i := 12) sc_law.nd rfl (by first | exact .inl rfl | exact .inr rfl) (pe_lst pa_nil))
      (pss_cons (ps_for PassesOwn.never rfl (pi_range1 (by rfl) T.z_range (pa_cons (pv 2) pa_nil)) (pg_name (i := 13) sc_law.nd rfl (by first | exact .inl rfl | exact .inr rfl))
      (pss_cons (ps_setLc (i := 14) (own := [("row", 16)]) (g := (gName 16)) (by rfl) sc_law.nd rfl rfl (sw_true rfl rfl rfl (by decide +kernel)) (piS K rfl (pe_op (catK K rfl) (pe_slice (slTK K rfl) (pv 3) po_none (po_some (pv 13))) (pe_slice (slTK K rfl) (pv 3) (po_some (pe_op op_add (pv 13) pe_int)) po_none))) ((by show BlkOk ["script", "state", "n", "a", "b", "x", "y", "d", "e", "adjugate", "due", "i", "line", "k", "minor_v", "scalar", "row"] (defScope s_law) _ _; exact blkOk_by (by decide +kernel))) (fun _ _ _ _ _ => (pg_name (i := 16) sc_law.nd rfl (by first | exact .inl rfl | exact .inr rfl))) (fun _ _ _ _ _ => pts_nil) (fun _ _ _ _ _ => (pe_op (catK K rfl) (pe_slice (slTK K rfl) (pv 16) po_none (po_some (pv 11))) (pe_slice (slTK K rfl) (pv 16) (po_some (pe_op op_add (pv 11) pe_int)) po_none))))
      (pss_one (ps_expr (pe_bm PySem.F.plainAttrs_list PySem.F.slot_list_append PySem.F.type_list_append mt_append (pv 12) (pa_cons (pe_op op_mulX (pe_op op_sub pe_int (pe_op op_mul pe_int (pe_op op_mod (pe_op op_add (pv 11) (pv 13)) pe_int))) (pe_c (cal_law_determinant T hN hT) hr (by decide) (by rfl) (pa_cons (pv 14) pa_nil))) pa_nil))))))
      (pss_one (ps_expr (pe_bm PySem.F.plainAttrs_list PySem.F.slot_list_append PySem.F.type_list_append mt_append (pv 10) (pa_cons (pe_callTy (tupK K rfl) (by rfl) T.z_tuple (by decide +kernel) (pa_cons (pv 12) pa_nil)) pa_nil)))))))
      (pss_cons (ps_if (pt_cmpR (neDK K rfl hr) (fldK K rfl (pv 9) rfl) (pe_callTy (tupK K rfl) (by rfl) T.z_tuple (by decide +kernel) (pa_cons (pv 10) pa_nil)) (nomark _))
      (pss_one (ps_ret pe_bl))
      pss_nil)
      (pss_cons (ps_set (i := 15) sc_law.nd rfl (by first | exact .inl rfl | exact .inr rfl) (pe_callTy (tupK K rfl) (by rfl) T.z_tuple (by decide +kernel) (pa_cons (pe_lc (own := [("i", 11)]) (g := (gName 11)) (by rfl) sc_law.nd (pi_range1 (by rfl) T.z_range (pa_cons (pv 2) pa_nil)) ((by show BlkOk ["script", "state", "n", "a", "b", "x", "y", "d", "e", "adjugate", "due", "i", "line", "k", "minor_v", "scalar", "row"] (defScope s_law) _ _; exact blkOk_by (by decide +kernel))) (fun _ _ _ _ _ => (pg_name (i := 11) sc_law.nd rfl (by first | exact .inl rfl | exact .inr rfl))) (fun _ _ _ _ _ => pts_nil) (fun _ _ _ _ _ => (pe_callTy (tupK K rfl) (by rfl) T.z_tuple (by decide +kernel) (pa_cons (pe_lc (own := [("k", 13)]) (g := (gName 13)) (by rfl) sc_law.nd (pi_range1 (by rfl) T.z_range (pa_cons (pv 2) pa_nil)) ((by show BlkOk ["script", "state", "n", "a", "b", "x", "y", "d", "e", "adjugate", "due", "i", "line", "k", "minor_v", "scalar", "row"] (relS _ (defScope s_law)) _ _; exact blkOk_by (by decide +kernel))) (fun _ _ _ _ _ => (pg_name (i := 13) sc_law.nd rfl (by first | exact .inl rfl | exact .inr rfl))) (fun _ _ _ _ _ => pts_nil) (fun _ _ _ _ _ => (pe_op op_mulX (pv 7) (pe_callTy (call_int1) (by rfl) T.z_int (by decide +kernel) (pa_cons (pe_cmpR op_eq (pv 11) (pv 13) (nomark _)) pa_nil))))) pa_nil)))) pa_nil)))
      (pss_cons (ps_if (PW.pt (pw_or (pt_cmpR (neDK K rfl hr) (pe_c (cal_law_product T hN hT) hr (by decide) (by rfl) (pa_cons (pv 3) (pa_cons (fldK K rfl (pv 9) rfl) (pa_cons (pv 2) pa_nil)))) (pv 15) (nomark _)) (pw_or1 (pt_cmpR (neDK K rfl hr) (pe_c (cal_law_product T hN hT) hr (by decide) (by rfl) (pa_cons (fldK K rfl (pv 9) rfl) (pa_cons (pv 3) (pa_cons (pv 2) pa_nil)))) (pv 15) (nomark _)))))
      (pss_one (ps_ret pe_bl))
      pss_nil)
      (pss_cons (ps_if (pt_cmpR op_ne (pe_mt0 (met_Grid_is_unimodular T hN hT) hr (by decide) (pv 5)) (pe_cmpR op_eq (pe_callB (call_abs) (by rfl) T.z_abs (by decide +kernel) (pa_cons (pv 7) pa_nil)) pe_int (nomark _)) (nomark _))
      (pss_one (ps_ret pe_bl))
      pss_nil)
      (pss_one (ps_ret (pe_c (cal_law_refused T hN hT) hr (by decide) (by rfl) (pa_cons (pe_mk (mak_Grid T hN hT) hr (by decide) (by rfl) (pa_cons (pe_lc (own := [("i", 11)]) (g := (gName 11)) (by rfl) sc_law.nd (pi_range1 (by rfl) T.z_range (pa_cons (pv 2) pa_nil)) ((by show BlkOk ["script", "state", "n", "a", "b", "x", "y", "d", "e", "adjugate", "due", "i", "line", "k", "minor_v", "scalar", "row"] (defScope s_law) _ _; exact blkOk_by (by decide +kernel))) (fun _ _ _ _ _ => (pg_name (i := 11) sc_law.nd rfl (by first | exact .inl rfl | exact .inr rfl))) (fun _ _ _ _ _ => pts_nil) (fun _ _ _ _ _ => (pe_lc (own := [("k", 13)]) (g := (gName 13)) (by rfl) sc_law.nd (pi_range1 (by rfl) T.z_range (pa_cons (pe_op op_add (pv 2) pe_int) pa_nil)) ((by show BlkOk ["script", "state", "n", "a", "b", "x", "y", "d", "e", "adjugate", "due", "i", "line", "k", "minor_v", "scalar", "row"] (relS _ (defScope s_law)) _ _; exact blkOk_by (by decide +kernel))) (fun _ _ _ _ _ => (pg_name (i := 13) sc_law.nd rfl (by first | exact .inl rfl | exact .inr rfl))) (fun _ _ _ _ _ => pts_nil) (fun _ _ _ _ _ => pe_int)))) (pa_cons (pe_op op_add (pv 2) pe_int) pa_nil))) pa_nil)))))))))))))))))))), ?_⟩
    -- state, n, a, b
    refine ⟨_, rfl, a0, ns, rfl, hsc, hl, fun p H1 s1 np st1 => ?_⟩
    refine ⟨_, rfl, p, 5, rfl, st1, by decide, by decide, fun n H2 hn5 o2 st2 => ?_⟩
    refine ⟨_, rfl, _, rfl, _, rfl, p, n, n, 9, rfl, st2, by omega, by omega, by decide, fun va m0 H3 o3 st3 hva la wa ba => ?_⟩
    refine ⟨_, rfl, _, rfl, _, rfl, p, n, n, 5, rfl, st3, by omega, by omega, by decide, fun vb mb H4 o4 st4 hvb lb wb bb => ?_⟩
    have hva4 : TRows K H4 va m0 := by
      obtain ⟨l, e⟩ := st3.ref
      exact hva.off e o4
    have hsc4 : SqL K H4 a0 (ns.map V.int) := sqL_off np hsc o4 (sqL_off np hsc o3 (sqL_off np hsc o2 (Same.seq s1 hsc)))
    have sqb : Sq n 5 mb := ⟨lb, wb, small_bits bb (by decide)⟩
    have sqa0 : Sq n 5 m0 := ⟨la, wa, small_bits ba (by decide)⟩
    -- if n > 0 and _law_take(state, 4) == 0
    refine ⟨fun σ H5 => ∃ va m, σ = [some (.ref a0), some (.ref p), some (.int n), some va, some vb, none, none, none, none, none, none, none, none, none, none, none, none] ∧ TRows K H5 va m ∧ TRows K H5 vb mb ∧ Sq n 1048577 m, ?_, ?_⟩
    · refine ⟨_, rfl, _, _, rfl, rfl, _, rfl, ?_⟩
      by_cases h1 : (0 : Int) < (n : Int)
      · rw [decide_eq_true h1]
        refine iteT ?_
        refine ⟨_, rfl, p, 4, rfl, st4, by decide, by decide, fun r H5 hr5 o5 st5 => ⟨rfl, _, rfl, ?_⟩⟩
        have hva5 : TRows K H5 va m0 := by
          obtain ⟨l, e⟩ := st4.ref
          exact hva4.off e o5
        have hvb5 : TRows K H5 vb mb := by
          obtain ⟨l, e⟩ := st4.ref
          exact TRows.off e o5 hvb
        have hsc5 : SqL K H5 a0 (ns.map V.int) := sqL_off np hsc o5 hsc4
        by_cases hr0 : V.int (r : Int) = V.int 0
        · rw [decide_eq_true hr0]
          refine iteT ?_
          obtain ⟨b, ws, rfl, hs, hp⟩ := id hva5
          have lws := Paired.length hp
          obtain ⟨r0, mt, rfl⟩ : ∃ r0 mt, m0 = r0 :: mt := by
            cases m0 with
            | nil => rw [List.length_nil] at la; omega
            | cons r0 mt => exact ⟨r0, mt, rfl⟩
          obtain ⟨v0, wt, rfl⟩ : ∃ v0 wt, ws = v0 :: wt := by
            cases ws with
            | nil => exact absurd lws (by simp)
            | cons v0 wt => exact ⟨v0, wt, rfl⟩
          obtain ⟨⟨b0, rfl, hb0⟩, hpt⟩ : TRow K H5 v0 r0 ∧ Paired (TRow K H5) wt mt := by
            cases hp with
            | cons x y => exact ⟨x, y⟩
          have hr0l := wa r0 (List.mem_cons_self ..)
          refine ⟨_, rfl, a0, ns, 0, rfl, hsc5, ?_⟩
          refine ⟨by show 1 ≤ sizeLine; decide, fun t1 n1 => ?_⟩
          have s51 : Same H5 (upd H5 t1 (.tup [.int (ns.getD 0 0)])) := same_upd n1
          refine ⟨_, rfl, b, _, _, _, rfl, rfl, Same.seqT s51 hs, atI_nat (j := 0) rfl, 1, rfl, ?_⟩
          refine (show rSlA K (.ref b0) (some ((1 : Nat) : Int)) none (upd H5 t1 (.tup [.int (ns.getD 0 0)])) (fun y H2 => rCatA K (.ref t1) y H2 _) from ?_)
          refine slA_drop (Same.seqT s51 hb0) 1 fun t2 H51 s52 ht2 => ?_
          refine catA (a := t1) (xs := [V.int (ns.getD 0 0)]) (Same.seqT s52 (.inl (.inl upd_same))) ht2 ?_ fun t3 H52 s53 ht3 => ?_
          · rw [List.length_drop, List.length_map]
            simp only [List.length_cons, List.length_nil]
            omega
          have s5c := s51.trans (s52.trans s53)
          refine ⟨by show 1 ≤ sizeLine; decide, fun t4 n4 => ?_⟩
          have s54 := s5c.trans (same_upd (o := .tup [.ref t3]) n4)
          refine ⟨_, rfl, 1, rfl, ?_⟩
          refine (show rSlA K (.ref b) (some ((1 : Nat) : Int)) none (upd H52 t4 (.tup [.ref t3])) (fun y H2 => rCatA K (.ref t4) y H2 _) from ?_)
          refine slA_drop (Same.seqT s54 hs) 1 fun t5 H53 s55 ht5 => ?_
          refine catA (a := t4) (xs := [V.ref t3]) (Same.seqT s55 (.inl (.inl upd_same))) ht5 ?_ fun t6 H54 s56 ht6 => ?_
          · rw [List.length_drop, lws, la]
            simp only [List.length_cons, List.length_nil]
            omega
          have sAll := s54.trans (s55.trans s56)
          have s3 : Same H52 H54 := (same_upd (o := .tup [.ref t3]) n4).trans (s55.trans s56)
          refine ⟨_, (ns.getD 0 0 :: r0.drop 1) :: mt, rfl, ⟨t6, _, rfl, ht6, .cons ⟨t3, rfl, ?_⟩ ?_⟩, TRows.same sAll hvb5, ?_⟩
          · have := Same.seqT s3 ht3
            rw [List.map_cons, List.map_drop]
            exact this
          · exact L2.Paired.mapP hpt fun _ _ => TRow.same sAll
          · have hc : (ns.getD 0 0).natAbs < 2 ^ 1048577 := by
              cases ns with
              | nil => exact Nat.two_pow_pos _
              | cons z zs => exact Nat.lt_of_lt_of_le (bits_of (hb z (List.mem_cons_self ..))) (Nat.pow_le_pow_right (by decide) (by decide))
            have sq' := sqa0.mono (show 5 ≤ 1048577 by decide)
            refine ⟨la, fun r hr => ?_, fun r hr => ?_⟩
            · rcases List.mem_cons.mp hr with rfl | hr
              · rw [List.length_cons, List.length_drop]
                omega
              · exact wa r (List.mem_cons_of_mem _ hr)
            · rcases List.mem_cons.mp hr with rfl | hr
              · intro x hx
                rcases List.mem_cons.mp hx with rfl | hx
                · exact hc
                · exact sq'.bits r0 (List.mem_cons_self ..) x (List.mem_of_mem_drop hx)
              · exact sq'.bits r (List.mem_cons_of_mem _ hr)
        · rw [decide_eq_false hr0]
          refine iteF ?_
          exact ⟨_, m0, rfl, hva5, hvb5, sqa0.mono (by decide)⟩
      · rw [decide_eq_false h1]
        refine iteF ?_
        show (if false = true then _ else _)
        refine iteF ?_
        exact ⟨_, m0, rfl, hva4, hvb, sqa0.mono (by decide)⟩
    · rintro σ H5 ⟨va, m, rfl, hva, hvb, sqa⟩
      -- x, y = Grid(a, n), Grid(b, n)
      have hn4 : n ≤ 4 := by omega
      have wB : ∀ {r : List Int}, r ∈ mb → r.length = n := fun h => sqb.row _ h
      refine ⟨_, rfl, _, rfl, ?_⟩
      intro x xd nx nxd nex
      refine make_grid2 (C := T.C_Grid) nx nxd hva.rows (by rw [sqa.len]; omega) (by omega) sqa.row fun H6 s6 G6 => ⟨rfl, ?_⟩
      refine ⟨_, rfl, _, rfl, ?_⟩
      intro y yd ny nyd ney
      refine make_grid2 (C := T.C_Grid) ny nyd (TRows.same s6 hvb).rows (by rw [sqb.len]; omega) (by omega) sqb.row fun H7 s7 G7 => ⟨rfl, ?_⟩
      refine ⟨_, _, rfl, ?_⟩
      -- d, e
      have hva7 := TRows.same (s6.trans s7) hva
      have hvb7 := TRows.same (s6.trans s7) hvb
      have Gx := IsGrid.same s7 G6
      refine ⟨_, rfl, n, by omega, va, m, 1048577, rfl, TRows.seqS hva7, sqa, by decide, fun H8 s8 => ?_⟩
      refine ⟨_, rfl, n, by omega, vb, mb, 5, rfl, TRows.seqS (TRows.same s8 hvb7), sqb, by decide, fun H9 s9 => ?_⟩
      refine ⟨by show 2 ≤ sizeLine; decide, fun t nt => ?_⟩
      refine g_pair nt ?_
      have s79 : Same H7 (upd H9 t (.tup [.int (detL n m), .int (detL n mb)])) := s8.trans (s9.trans (same_upd nt))
      have hvaA := TRows.same s79 hva7
      have GxA := IsGrid.same s79 Gx
      have GyA := IsGrid.same s79 G7
      generalize upd H9 t (.tup [.int (detL n m), .int (detL n mb)]) = HA at hvaA GxA GyA ⊢
      obtain ⟨⟨_, dx, tx, ex, hox, htx⟩, _⟩ := id GxA
      cases ex
      obtain ⟨⟨_, dy, ty, ey, hoy, hty⟩, _⟩ := id GyA
      cases ey
      obtain ⟨BW, hBW⟩ : ∃ W : Nat, W = 5000000 := ⟨_, rfl⟩
      have bd : (detL n m).natAbs < 2 ^ BW := det_bits hn4 (by decide) hBW sqa
      have be : (detL n mb).natAbs < 2 ^ BW := det_bits hn4 (by decide) hBW sqb
      have hCM : CMulX (detL n m) (detL n mb) := mulx_ok bd be (by omega)
      -- the first test
      refine ⟨_, rfl, x, dx, _, rfl, hox, m_determinant _ _, .ref x, m, n, 1048577, rfl, GxA, sqa, by omega, by decide, fun HB sB => ?_⟩
      rw [bare_det hn4 sqa.sz]
      refine ⟨_, rfl, rfl, _, rfl, ?_⟩
      rw [decide_eq_true rfl]
      refine iteF ?_
      refine ⟨_, rfl, x, dx, _, rfl, sB _ _ hox, m_determinant _ _, .ref x, m, n, 1048577, rfl, IsGrid.same sB GxA, sqa, by omega, by decide, fun HC sC => ?_⟩
      refine ⟨.int _, .ty "bool", _, _, false, rfl, .ty _, .base (.int _), kit_ty (by decide +kernel), false, rfl, ?_⟩
      refine iteF ?_
      have sBC := sB.trans sC
      refine ⟨_, rfl, _, rfl, x, y, dx, dy, _, _, rfl, rfl, sBC _ _ hox, sBC _ _ hoy, ?_⟩
      refine ⟨.ref x, m, n, .ref y, mb, n, 1048577, 5, rfl, IsGrid.same sBC GxA, IsGrid.same sBC GyA, sqb.len.symm, by rw [sqa.len]; omega, by rw [sqb.len]; omega, by omega, sqa.bits, sqb.bits, by decide, fun g HD sD Gg => ?_⟩
      obtain ⟨⟨pg, dg, tg, rfl, hog, _⟩, _⟩ := id Gg
      have sqp : Sq n (1048577 + 5 + 3) (mulM m mb n) := mul_sq hn4 sqa sqb
      refine ⟨pg, dg, _, rfl, hog, m_determinant _ _, .ref pg, mulM m mb n, n, 1048577 + 5 + 3, rfl, Gg, sqp, by omega, by decide, fun HE sE => ?_⟩
      rw [bare_det hn4 sqp.sz, det_mul hn4 sqa.sz sqb.sz]
      refine ⟨_, rfl, _, rfl, _, _, rfl, rfl, hCM, ?_⟩
      refine ⟨rfl, _, rfl, ?_⟩
      rw [decide_eq_true rfl]
      refine iteF ?_
      have sAE := sBC.trans (sD.trans sE)
      have hlm := sqa.len
      refine ⟨_, rfl, x, dx, _, rfl, sAE _ _ hox, m_transposed _ _, .ref x, m, n, rfl, IsGrid.same sAE GxA, by omega, by omega, fun g2 HF sF Gg2 => ?_⟩
      rw [hlm] at Gg2
      obtain ⟨⟨pg2, dg2, tg2, rfl, hog2, _⟩, _⟩ := id Gg2
      have sqt := tr_sq sqa
      refine ⟨pg2, dg2, _, rfl, hog2, m_determinant _ _, .ref pg2, transp m n, n, 1048577, rfl, Gg2, sqt, by omega, by decide, fun HG sG => ?_⟩
      rw [bare_det hn4 sqt.sz, det_tr hn4 sqa.sz]
      refine ⟨_, rfl, rfl, _, rfl, ?_⟩
      rw [decide_eq_true rfl]
      refine iteF ?_
      have sAG := sAE.trans (sF.trans sG)
      -- adjugate
      refine ⟨_, rfl, x, dx, _, rfl, sAG _ _ hox, m_adjugate _ _, .ref x, m, n, 1048577, rfl, IsGrid.same sAG GxA, sqa, by omega, by decide, fun g3 HH sH Gj => ?_⟩
      rw [adj_due hn4 sqa] at Gj
      refine ⟨_, rfl, _, rfl, _, rfl, g3, dueM n m, n, n, rfl, Gj, due_len _ _, by omega, ?_⟩
      refine ⟨_, rfl, ?_⟩
      refine iteF ?_
      have sAH := sAG.trans sH
      -- due = []
      refine ⟨by show 0 ≤ sizeLine; decide, fun R nR => ?_⟩
      refine ⟨_, rfl, (n : Int), rfl, by omega, by omega, ?_⟩
      rw [Int.toNat_natCast]
      refine for_it walk_range (fun i σ H2 => ∃ y11 y12 y13 y14, σ = [some (.ref a0), some (.ref p), some (.int n), some va, some vb, some (.ref x), some (.ref y), some (.int (detL n m)), some (.int (detL n mb)), some g3, some (.ref R), y11, y12, y13, y14, none, none] ∧ Same HH H2 ∧
        ∃ l, H2 R = some (.lst l) ∧ Paired (TRow K H2) l ((dueM n m).take i)) ⟨_, _, _, _, rfl, same_upd nR, [], upd_same, by rw [List.take_zero]; exact .nil⟩ (fun _ _ _ _ _ => trivial) ?_ ?_
      · rintro i zz σ H2 H2' hi ⟨y11, y12, y13, y14, rfl, o2, l, eR, hpl⟩ ⟨rfl, rfl⟩
        have s2 := sAH.trans o2
        have hva2 := TRows.same s2 hvaA
        obtain ⟨row, hrow⟩ : ∃ row, row = (List.range n).map fun k => sgn (i + k) * detL (n - 1) (cutM m k i) := ⟨_, rfl⟩
        have lrow : row.length = n := by rw [hrow, List.length_map, List.length_range]
        have eg : (dueM n m)[i]? = some row := by
          unfold dueM
          rw [List.getElem?_map, List.getElem?_range hi, hrow]
          rfl
        have hll := Paired.length hpl
        rw [List.length_take, due_len] at hll
        -- line = []
        refine ⟨by show 0 ≤ sizeLine; decide, fun L nL => ?_⟩
        have s3 : Same H2' (upd H2' L (.lst [])) := same_upd nL
        refine ⟨_, rfl, (n : Int), rfl, by omega, by omega, ?_⟩
        rw [Int.toNat_natCast]
        refine for_it walk_range (fun k σ H3 => ∃ y13 y14, σ = [some (.ref a0), some (.ref p), some (.int n), some va, some vb, some (.ref x), some (.ref y), some (.int (detL n m)), some (.int (detL n mb)), some g3, some (.ref R), some (.int (0 + (i : Int))), some (.ref L), y13, y14, none, none] ∧ Same H2' H3 ∧ H3 L = some (.lst ((row.take k).map V.int))) ⟨_, _, rfl, s3, by rw [upd_same]; rfl⟩ (fun _ _ _ _ _ => trivial) ?_ ?_
        · rintro k zz σ H3 H3' hk ⟨y13, y14, rfl, s4, eL⟩ ⟨rfl, rfl⟩
          obtain ⟨b, ws, rfl, hs, hp⟩ := id (TRows.same s4 hva2)
          have lws := Paired.length hp
          rw [sqa.len] at lws
          -- minor_v
          have kk0 : V.int (0 + (k : Int)) = V.int (k : Int) := by rw [Int.zero_add]
          have ii0 : V.int (0 + (i : Int)) = V.int (i : Int) := by rw [Int.zero_add]
          refine ⟨_, rfl, _, rfl, (k : Int), kk0, ?_⟩
          refine (show rSlA K (.ref b) none (some (k : Int)) H3' _ from ?_)
          refine slA_take hs k fun p1 H4 s5 t5 => ?_
          refine ⟨_, rfl, _, rfl, (k : Int), 1, kk0, rfl, _, rfl, ?_⟩
          rw [show (k : Int) + 1 = ((k + 1 : Nat) : Int) by omega]
          refine (show rSlA K (.ref b) (some ((k + 1 : Nat) : Int)) none H4 (fun y H2 => rCatA K (.ref p1) y H2 _) from ?_)
          refine slA_drop (Same.seqT s5 hs) (k + 1) fun p2 H5 s6 t6 => ?_
          refine catA (Same.seqT s6 t5) t6 (by simp only [List.length_take, List.length_drop]; omega) fun p3 H6 s7 t7 => ?_
          have s36 := s5.trans (s6.trans s7)
          rw [← List.eraseIdx_eq_take_drop_succ] at t7
          have hp3 : Paired (TRow K H6) (ws.eraseIdx k) (m.eraseIdx k) := paired_erase k (L2.Paired.mapP hp fun _ _ => TRow.same s36)
          have lwe : (ws.eraseIdx k).length = n - 1 := by rw [List.length_eraseIdx_of_lt (by omega), lws]
          refine ⟨p3, _, rfl, .inr t7, fun J G W hG D hD => ?_⟩
          refine lc_all W hD (by omega) (fun H7 s8 => hG H7 fun b _ o => s8 b o) (fun j v H7 => ∃ r, (cutM m k i)[j]? = some r ∧ TRow K H7 v r) (fun j v H7 H8 acc e o ⟨r, er, h⟩ => ⟨r, er, TRow.off e o h⟩) ?_ gm_name ?_
          · rintro j zz H7 H7' acc Ko hj s8 eD ⟨rfl, ex⟩ kk
            obtain ⟨r, er, c, rfl, hc⟩ := Paired.getR hp3 ex
            have hrm := List.mem_of_mem_eraseIdx (List.mem_of_getElem? er)
            have hrl := sqa.row r hrm
            have hc7 := Same.seqT s8 hc
            refine ⟨rfl, ?_⟩
            refine ⟨_, rfl, _, rfl, (i : Int), ii0, ?_⟩
            refine (show rSlA K (.ref c) none (some (i : Int)) H7' _ from ?_)
            refine slA_take hc7 i fun q1 H8 u5 v5 => ?_
            refine ⟨_, rfl, _, rfl, (i : Int), 1, ii0, rfl, _, rfl, ?_⟩
            rw [show (i : Int) + 1 = ((i + 1 : Nat) : Int) by omega]
            refine (show rSlA K (.ref c) (some ((i + 1 : Nat) : Int)) none H8 (fun y H2 => rCatA K (.ref q1) y H2 _) from ?_)
            refine slA_drop (Same.seqT u5 hc7) (i + 1) fun q2 H9 u6 v6 => ?_
            refine catA (Same.seqT u6 v5) v6 (by simp only [List.length_take, List.length_drop, List.length_map]; omega) fun q3 H10 u7 v7 => ?_
            refine kk _ _ (u5.trans (u6.trans u7)) ⟨r.eraseIdx i, ?_, q3, rfl, ?_⟩
            · unfold cutM
              rw [List.getElem?_map, er]
              rfl
            · rw [← erase_eq, List.map_append, List.map_take, List.map_drop]
              exact v7
          · intro H7 lm s8 eD hpm
            have sqc : Sq (n - 1) 1048577 (cutM m k i) := cutM_sq' sqa hk hi
            have hm7 : SRows K H7 (.ref D) (cutM m k i) := ⟨D, lm, rfl, .inl (.inl (.inl eD)), paired_at (m := cutM m k i) (by rw [lwe, sqc.len]) hpm⟩
            have s37 : Same H3' H7 := s36.trans s8
            have eL7 := s37 _ _ eL
            refine ⟨_, rfl, .inl ⟨rfl, _, .inl (.inl eL7)⟩, ?_⟩
            refine ⟨_, rfl, _, rfl, 0 + (i : Int), 0 + (k : Int), rfl, rfl, _, 2, rfl, rfl, by show (0 : Int) < 2; decide, 2, _, rfl, rfl, .inl ⟨by decide, by decide⟩, 1, _, rfl, rfl, ?_⟩
            refine ⟨_, rfl, n - 1, by omega, .ref D, cutM m k i, 1048577, rfl, hm7, sqc, by decide, fun H8 s9 => ?_⟩
            have bm : (detL (n - 1) (cutM m k i)).natAbs < 2 ^ BW := det_bits (by omega) (by decide) hBW sqc
            have b1 : (1 - 2 * ((0 + (i : Int) + (0 + (k : Int))) % 2)).natAbs < 2 ^ 1 := by
              have : (1 - 2 * ((0 + (i : Int) + (0 + (k : Int))) % 2)).natAbs = 1 := by omega
              rw [this]
              decide
            have eL8 := s9 _ _ eL7
            refine ⟨_, _, rfl, rfl, mulx_ok b1 bm (by omega), L, _, _, rfl, rfl, eL8, small1000 (by rw [List.length_map, List.length_take]; omega), ?_⟩
            refine ⟨_, _, rfl, fun c o h => ?_, ?_⟩
            · rw [upd_ne (ne_of_none h nL)]
              exact s9 _ _ (s37 _ _ (s4 _ _ h))
            · have er : row[k]? = some (sgn (i + k) * detL (n - 1) (cutM m k i)) := by
                rw [hrow, List.getElem?_map, List.getElem?_range hk]
                rfl
              have es : (1 - 2 * ((0 + (i : Int) + (0 + (k : Int))) % 2)) = sgn (i + k) := by
                unfold sgn
                omega
              rw [upd_same, List.take_add_one, er, List.map_append, es]
              rfl
        · rintro σ H3 ⟨y13, y14, rfl, s4, eL⟩
          rw [List.take_of_length_le (by rw [lrow]; exact Nat.le_refl _)] at eL
          have eR3 := s4 _ _ eR
          refine ⟨_, rfl, .inl ⟨rfl, _, .inl (.inl eR3)⟩, _, rfl, L, _, rfl, .inl ⟨.inl (.inl eL), fun t nt => ?_⟩⟩
          have st := same_upd (o := .tup (row.map V.int)) nt
          have eR4 := st _ _ eR3
          refine ⟨R, l, _, rfl, rfl, eR4, small1000 (by omega), ?_⟩
          have htR : t ≠ R := by
            rintro rfl
            rw [eR3] at nt
            cases nt
          refine ⟨_, _, _, _, rfl, fun c o h => ?_, l ++ [.ref t], upd_same, ?_⟩
          · rw [upd_ne (ne_of_none h nR)]
            exact st _ _ (s4 _ _ (o2 _ _ h))
          · rw [List.take_add_one, eg]
            refine Paired.snoc (L2.Paired.mapP hpl fun _ _ r => TRow.off eR4 Off.upd (TRow.same st (TRow.same s4 r))) ⟨t, rfl, .inl (.inl ?_)⟩
            rw [upd_ne htR, upd_same]
      · rintro σ H2 ⟨y11, y12, y13, y14, rfl, o2, l, eR, hpl⟩
        rw [List.take_of_length_le (by rw [due_len]; exact Nat.le_refl _)] at hpl
        have s2 := sAH.trans o2
        obtain ⟨⟨pj, dj, tj, ej, hoj, htj⟩, _⟩ := id (IsGrid.same o2 Gj)
        subst ej
        -- adjugate.rows != tuple(due)
        refine ⟨_, rfl, pj, T.C_Grid, dj, _, tj, rfl, hoj, T.cl_Grid, T.n_rows, flds_rows _ _, ?_⟩
        refine ⟨_, rfl, R, l, rfl, .inl ⟨.inl (.inl eR), fun t3 n3 => ?_⟩⟩
        have sU := same_upd (o := .tup l) n3
        have hdue : TRows K (upd H2 t3 (.tup l)) (.ref t3) (dueM n m) := ⟨t3, l, rfl, .inl (.inl upd_same), L2.Paired.mapP hpl fun _ _ => TRow.same sU⟩
        refine ne_rows (TRows.same sU htj) hdue rfl ⟨_, rfl, ?_⟩
        refine iteF ?_
        have s3 := s2.trans sU
        have hvaR := TRows.same s3 hvaA
        have hojR := sU _ _ hoj
        have htjR := TRows.same sU htj
        have hoxR := s3 _ _ hox
        have GxR := IsGrid.same s3 GxA
        generalize upd H2 t3 (.tup l) = HR at hvaR hojR htjR hoxR GxR ⊢
        -- scalar
        refine ⟨_, rfl, (n : Int), rfl, by omega, by omega, fun D hD => ?_⟩
        refine lc_all walk_range hD (by omega) (fun _ _ => trivial) (fun i v H4 => ∃ r, (scalM n (detL n m))[i]? = some r ∧ TRow K H4 v r) (fun i v H4 H5 acc e o ⟨r, er, h⟩ => ⟨r, er, TRow.off e o h⟩) ?_ gm_name ?_
        · rintro i zz H4 H4' acc Ko hi s4 eD ⟨rfl, rfl⟩ kk
          have hi' : i < n := by omega
          refine ⟨rfl, ?_⟩
          obtain ⟨row, hrow⟩ : ∃ row, row = (List.range n).map fun k => detL n m * (if i = k then 1 else 0) := ⟨_, rfl⟩
          have eg : (scalM n (detL n m))[i]? = some row := by
            unfold scalM
            rw [List.getElem?_map, List.getElem?_range hi', hrow]
            rfl
          refine ⟨_, rfl, (n : Int), rfl, by omega, by omega, fun D2 hD2 => ?_⟩
          refine lc_all walk_range hD2 (by omega) (fun _ _ => trivial) (fun j v _ => ∃ z, row[j]? = some z ∧ v = .int z) (fun _ _ _ _ _ _ _ h => h) ?_ gm_name ?_
          · rintro j zz H5 H5' acc2 Ko2 hj s5 eD2 ⟨rfl, rfl⟩ k2
            have hj' : j < n := by omega
            refine ⟨rfl, ?_⟩
            refine ⟨_, rfl, _, rfl, _, rfl, rfl, .inr ⟨_, rfl, ?_⟩⟩
            have eb : (if decide (V.int (0 + (i : Int)) = V.int (0 + (j : Int))) = true then (1 : Int) else 0) = if i = j then 1 else 0 := by
              by_cases h : i = j
              · subst h
                rw [if_pos rfl, if_pos (decide_eq_true rfl)]
              · rw [if_neg h, if_neg]
                rw [decide_eq_true_eq]
                intro z
                have := V.int.inj z
                omega
            have b01 : (if decide (V.int (0 + (i : Int)) = V.int (0 + (j : Int))) = true then (1 : Int) else 0).natAbs < 2 ^ 1 := by
              split <;> decide
            refine ⟨_, _, rfl, rfl, mulx_ok bd b01 (by omega), ?_⟩
            refine k2 _ _ (Same.refl _) ⟨_, ?_, rfl⟩
            rw [hrow, List.getElem?_map, List.getElem?_range hj', eb]
            rfl
          · intro H5 l2 s5 eD2 hpl2
            have el := ints_list (by rw [hrow, List.length_map, List.length_range]; omega) hpl2
            subst el
            refine ⟨D2, _, rfl, .inl ⟨.inl (.inl eD2), fun t nt => ?_⟩⟩
            exact kk _ _ (s5.trans (same_upd nt)) ⟨row, eg, t, rfl, .inl (.inl upd_same)⟩
        · intro H4 l2 s4 eD hpl2
          refine ⟨D, l2, rfl, .inl ⟨.inl (.inl eD), fun t4 n4 => ?_⟩⟩
          have sV := same_upd (o := .tup l2) n4
          have lsc : (scalM n (detL n m)).length = n := by
            unfold scalM
            rw [List.length_map, List.length_range]
          have hsc : TRows K (upd H4 t4 (.tup l2)) (.ref t4) (scalM n (detL n m)) := ⟨t4, l2, rfl, .inl (.inl upd_same), L2.Paired.mapP (paired_at (m := scalM n (detL n m)) (by omega) hpl2) fun _ _ => TRow.same sV⟩
          have s5 := s4.trans sV
          have hvaS := TRows.same s5 hvaR
          have hojS := s5 _ _ hojR
          have htjS := TRows.same s5 htjR
          have hoxS := s5 _ _ hoxR
          have GxS := IsGrid.same s5 GxR
          generalize upd H4 t4 (.tup l2) = HS at hsc hvaS hojS htjS hoxS GxS ⊢
          -- the products
          refine ⟨_, rfl, _, rfl, pj, T.C_Grid, dj, _, tj, rfl, hojS, T.cl_Grid, T.n_rows, flds_rows _ _, _, rfl, va, tj, m, dueM n m, n, 1048577, 5000000, rfl, hvaS, htjS, by omega, by rw [due_len]; omega, by omega, fun r hr => by rw [due_len, sqa.row r hr], due_row, sqa.bits, due_bits hn4 (by decide) sqa, by decide, fun v' HT sT hv' => ?_⟩
          refine ⟨_, rfl, ne_rows hv' (TRows.same sT hsc) (mul_due hn4 sqa.sz) ⟨_, rfl, ?_⟩⟩
          refine iteF ?_
          refine ⟨_, rfl, pj, T.C_Grid, dj, _, tj, rfl, sT _ _ hojS, T.cl_Grid, T.n_rows, flds_rows _ _, _, rfl, _, rfl, tj, va, dueM n m, m, n, 5000000, 1048577, rfl, TRows.same sT htjS, TRows.same sT hvaS, by rw [due_len]; omega, by omega, by omega, fun r hr => by rw [due_row r hr, sqa.len], sqa.row, due_bits hn4 (by decide) sqa, sqa.bits, by decide, fun v2 HU sU hv2 => ?_⟩
          refine ⟨_, rfl, ne_rows hv2 (TRows.same (sT.trans sU) hsc) (due_mul hn4 sqa.sz) ⟨_, rfl, ?_⟩⟩
          refine iteF ?_
          have sTU := sT.trans sU
          -- is_unimodular
          refine ⟨_, rfl, x, dx, _, rfl, sTU _ _ hoxS, m_is_unimodular _ _, .ref x, m, n, rfl, IsGrid.same sTU GxS, .inr ⟨1048577, sqa, by omega, by decide, fun HV sV => ?_⟩⟩
          rw [bare_det hn4 sqa.sz]
          refine ⟨_, rfl, _, rfl, rfl, rfl, _, rfl, ?_⟩
          rw [show decide (V.bl (decide ((detL n m).natAbs = 1)) = V.bl (decide (V.int (if detL n m < 0 then -detL n m else detL n m) = V.int 1))) = true from decide_eq_true (congrArg V.bl (abs_one _))]
          refine iteF ?_
          -- what is refused
          refine ⟨_, rfl, (n : Int), rfl, by omega, by omega, fun D3 hD3 => ?_⟩
          refine lc_all walk_range hD3 (by omega) (fun _ _ => trivial) (fun i v H5 => ∃ p, v = V.ref p ∧ p ≠ D3 ∧ H5 p = some (.lst (((onesM n).getD i []).map V.int))) lists_mono ?_ gm_name ?_
          · rintro i zz H5 H5' acc Ko hi s5 eD ⟨rfl, rfl⟩ kk
            have hi' : i < n := by omega
            refine ⟨rfl, ?_⟩
            have eg : (onesM n).getD i [] = List.replicate (n + 1) 1 := by
              unfold onesM
              rw [List.getD_eq_getElem?_getD, List.getElem?_replicate, if_pos hi']
              rfl
            refine ⟨_, rfl, _, _, rfl, rfl, ?_⟩
            refine ⟨_, rfl, by omega, by omega, fun D4 hD4 => ?_⟩
            refine lc_all walk_range hD4 (by omega) (fun _ _ => trivial) (fun j v _ => ∃ z, ((onesM n).getD i [])[j]? = some z ∧ v = .int z) (fun _ _ _ _ _ _ _ h => h) ?_ gm_name ?_
            · rintro j zz H6 H6' acc2 Ko2 hj s6 eD2 ⟨rfl, rfl⟩ k2
              refine ⟨rfl, ?_⟩
              refine k2 _ _ (Same.refl _) ⟨1, ?_, rfl⟩
              rw [eg, List.getElem?_replicate, if_pos (by omega)]
            · intro H6 l4 s6 eD2 hpl4
              have el := ints_list (by rw [eg, List.length_replicate]; omega) hpl4
              refine kk _ _ s6 ⟨D4, rfl, ?_, by rw [← el]; exact eD2⟩
              rintro rfl
              rw [eD] at hD4
              cases hD4
          · intro H5 l3 s5 eD hpl3
            have hrows := lists_rows (K := K) (m := onesM n) (by unfold onesM; rw [List.length_replicate]; omega) eD hpl3
            refine ⟨_, rfl, _, _, rfl, rfl, ?_⟩
            intro z zd nz nzd nez
            have lo : (onesM n).length = n := by unfold onesM; rw [List.length_replicate]
            refine make_grid2 (C := T.C_Grid) (m := onesM n) (w := n + 1) nz nzd hrows (by omega) (by omega) (fun r hr => ?_) fun H6 s6 G6 => ⟨rfl, ?_⟩
            · unfold onesM at hr
              rw [(List.mem_replicate.mp hr).2, List.length_replicate]
            · exact ⟨.ref z, onesM n, n + 1, rfl, G6, by omega, fun H7 _ => q H7⟩

end
end K02
namespace K02
open PySem PySem.Spec PyProof.Rows L2 Gm
theorem all_mk {l : PySem.W.OpenLaw} {w : World} {K : PySem.W.Frag} {h : Heap} {mg : Str → Option Value} {fa C_Grid X_Malformed f1 f2 f3 f4 f5 f6 f7 f8 f9 f10 f11 f12 f13 f14 f15 f16 f17 f18 f19 f20 f21 f22 f23 f24 f25 f26 f27 f28 : Addr} (X : K.In h) (G : h.Ns mainGlobals mg) (hfa : mg "law" = some (.ref fa)) (hT : l.prog.given.tree = none)
    {od1 an1 od2 an2 od3 an3 od4 an4 od5 an5 od6 an6 od7 an7 od8 an8 od9 an9 od10 an10 od11 an11 od12 an12 od13 an13 od14 an14 od15 an15 od16 an16 od17 an17 od18 an18 od19 an19 od20 an20 od21 an21 od22 an22 od23 an23 od24 an24 od25 an25 od26 an26 od27 an27 od28 an28 : Option Addr} {sl1 sl2 sl3 sl4 sl5 sl6 sl7 sl8 sl9 sl10 sl11 sl12 sl13 sl14 sl15 sl16 sl17 sl18 sl19 sl20 sl21 sl22 sl23 sl24 sl25 sl26 sl27 sl28 : Array (Option Value)} {oc1 kV1 dc1 pm1 cd1 ct1 oc2 kV2 dc2 pm2 cd2 ct2 oc3 kV3 dc3 pm3 cd3 ct3 oc4 kV4 dc4 pm4 cd4 ct4 oc5 kV5 dc5 pm5 cd5 ct5 oc6 kV6 dc6 pm6 cd6 ct6 oc7 kV7 dc7 pm7 cd7 ct7 oc8 kV8 dc8 pm8 cd8 ct8 oc9 kV9 dc9 pm9 cd9 ct9 oc10 kV10 dc10 pm10 cd10 ct10 oc11 kV11 dc11 pm11 cd11 ct11 oc12 kV12 dc12 pm12 cd12 ct12 oc13 kV13 dc13 pm13 cd13 ct13 oc14 kV14 dc14 pm14 cd14 ct14 oc15 kV15 dc15 pm15 cd15 ct15 oc16 kV16 dc16 pm16 cd16 ct16 oc17 kV17 dc17 pm17 cd17 ct17 oc18 kV18 dc18 pm18 cd18 ct18 oc19 kV19 dc19 pm19 cd19 ct19 oc20 kV20 dc20 pm20 cd20 ct20 oc21 kV21 dc21 pm21 cd21 ct21 oc22 kV22 dc22 pm22 cd22 ct22 oc23 kV23 dc23 pm23 cd23 ct23 oc24 kV24 dc24 pm24 cd24 ct24 oc25 kV25 dc25 pm25 cd25 ct25 oc26 kV26 dc26 pm26 cd26 ct26 oc27 kV27 dc27 pm27 cd27 ct27 oc28 kV28 dc28 pm28 cd28 ct28 : Value}
    {t9 : Addr} {tc9 : Value} {td9 : Option Addr} {tn9 : Nat} {ts9 : Array (Option Value)}
    (A1 : PySem.W.nsIn K mainGlobals "is_integer" = some (some (.ref f1)))
    (L1 : K.lookup f1 = some ⟨oc1, od1, .func (PySem.W.fnOf "is_integer" "is_integer" (defArgs s_is_integer) (defBody s_is_integer) (defScope s_is_integer) .none kV1 dc1 pm1 an1 cd1 ct1), sl1⟩)
    (D1 : PySem.W.codeIn K cd1 "is_integer" = true)
    (K1 : PySem.W.keepIn K (.ref f1) = true)
    (A2 : PySem.W.nsIn K mainGlobals "dot" = some (some (.ref f2)))
    (L2 : K.lookup f2 = some ⟨oc2, od2, .func (PySem.W.fnOf "dot" "dot" (defArgs s_dot) (defBody s_dot) (defScope s_dot) .none kV2 dc2 pm2 an2 cd2 ct2), sl2⟩)
    (D2 : PySem.W.codeIn K cd2 "dot" = true)
    (K2 : PySem.W.keepIn K (.ref f2) = true)
    (A3 : PySem.W.nsIn K mainGlobals "determinant_of" = some (some (.ref f3)))
    (L3 : K.lookup f3 = some ⟨oc3, od3, .func (PySem.W.fnOf "determinant_of" "determinant_of" (defArgs s_determinant_of) (defBody s_determinant_of) (defScope s_determinant_of) .none kV3 dc3 pm3 an3 cd3 ct3), sl3⟩)
    (D3 : PySem.W.codeIn K cd3 "determinant_of" = true)
    (K3 : PySem.W.keepIn K (.ref f3) = true)
    (A4 : PySem.W.nsIn K mainGlobals "first_with_head" = some (some (.ref f4)))
    (L4 : K.lookup f4 = some ⟨oc4, od4, .func (PySem.W.fnOf "first_with_head" "first_with_head" (defArgs s_first_with_head) (defBody s_first_with_head) (defScope s_first_with_head) .none kV4 dc4 pm4 an4 cd4 ct4), sl4⟩)
    (D4 : PySem.W.codeIn K cd4 "first_with_head" = true)
    (K4 : PySem.W.keepIn K (.ref f4) = true)
    (A5 : PySem.W.nsIn K mainGlobals "cleared" = some (some (.ref f5)))
    (L5 : K.lookup f5 = some ⟨oc5, od5, .func (PySem.W.fnOf "cleared" "cleared" (defArgs s_cleared) (defBody s_cleared) (defScope s_cleared) .none kV5 dc5 pm5 an5 cd5 ct5), sl5⟩)
    (D5 : PySem.W.codeIn K cd5 "cleared" = true)
    (K5 : PySem.W.keepIn K (.ref f5) = true)
    (A6 : PySem.W.nsIn K mainGlobals "minor" = some (some (.ref f6)))
    (L6 : K.lookup f6 = some ⟨oc6, od6, .func (PySem.W.fnOf "minor" "minor" (defArgs s_minor) (defBody s_minor) (defScope s_minor) .none kV6 dc6 pm6 an6 cd6 ct6), sl6⟩)
    (D6 : PySem.W.codeIn K cd6 "minor" = true)
    (K6 : PySem.W.keepIn K (.ref f6) = true)
    (A7 : PySem.W.nsIn K mainGlobals "adjugate_of" = some (some (.ref f7)))
    (L7 : K.lookup f7 = some ⟨oc7, od7, .func (PySem.W.fnOf "adjugate_of" "adjugate_of" (defArgs s_adjugate_of) (defBody s_adjugate_of) (defScope s_adjugate_of) .none kV7 dc7 pm7 an7 cd7 ct7), sl7⟩)
    (D7 : PySem.W.codeIn K cd7 "adjugate_of" = true)
    (K7 : PySem.W.keepIn K (.ref f7) = true)
    (A8 : PySem.W.nsIn K mainGlobals "signed_minor" = some (some (.ref f8)))
    (L8 : K.lookup f8 = some ⟨oc8, od8, .func (PySem.W.fnOf "signed_minor" "signed_minor" (defArgs s_signed_minor) (defBody s_signed_minor) (defScope s_signed_minor) .none kV8 dc8 pm8 an8 cd8 ct8), sl8⟩)
    (D8 : PySem.W.codeIn K cd8 "signed_minor" = true)
    (K8 : PySem.W.keepIn K (.ref f8) = true)
    (A9 : PySem.W.findIn K (.ref C_Grid) "__init__" = some (some (.ref f9)))
    (I9 : PySem.W.isFn K (.ref f9) = true)
    (L9 : K.lookup f9 = some ⟨oc9, od9, .func (PySem.W.fnOf "__init__" "Grid.__init__" (defArgs s_Grid_init) (defBody s_Grid_init) (defScope s_Grid_init) (.ref t9) kV9 dc9 pm9 an9 cd9 ct9), sl9⟩)
    (T9 : K.lookup t9 = some ⟨tc9, td9, .seq [Value.none].toArray tn9, ts9⟩)
    (D9 : PySem.W.codeIn K cd9 "Grid.__init__" = true)
    (K9 : PySem.W.keepIn K (.ref f9) = true)
    (A10 : PySem.W.findIn K (.ref C_Grid) "__len__" = some (some (.ref f10)))
    (I10 : PySem.W.isFn K (.ref f10) = true)
    (L10 : K.lookup f10 = some ⟨oc10, od10, .func (PySem.W.fnOf "__len__" "Grid.__len__" (defArgs s_Grid_len) (defBody s_Grid_len) (defScope s_Grid_len) .none kV10 dc10 pm10 an10 cd10 ct10), sl10⟩)
    (D10 : PySem.W.codeIn K cd10 "Grid.__len__" = true)
    (K10 : PySem.W.keepIn K (.ref f10) = true)
    (A11 : PySem.W.findIn K (.ref C_Grid) "__mul__" = some (some (.ref f11)))
    (I11 : PySem.W.isFn K (.ref f11) = true)
    (L11 : K.lookup f11 = some ⟨oc11, od11, .func (PySem.W.fnOf "__mul__" "Grid.__mul__" (defArgs s_Grid_mul) (defBody s_Grid_mul) (defScope s_Grid_mul) .none kV11 dc11 pm11 an11 cd11 ct11), sl11⟩)
    (D11 : PySem.W.codeIn K cd11 "Grid.__mul__" = true)
    (K11 : PySem.W.keepIn K (.ref f11) = true)
    (A12 : PySem.W.findIn K (.ref C_Grid) "transposed" = some (some (.ref f12)))
    (I12 : PySem.W.isFn K (.ref f12) = true)
    (L12 : K.lookup f12 = some ⟨oc12, od12, .func (PySem.W.fnOf "transposed" "Grid.transposed" (defArgs s_Grid_transposed) (defBody s_Grid_transposed) (defScope s_Grid_transposed) .none kV12 dc12 pm12 an12 cd12 ct12), sl12⟩)
    (D12 : PySem.W.codeIn K cd12 "Grid.transposed" = true)
    (K12 : PySem.W.keepIn K (.ref f12) = true)
    (A13 : PySem.W.findIn K (.ref C_Grid) "is_square" = some (some (.ref f13)))
    (I13 : PySem.W.isFn K (.ref f13) = true)
    (L13 : K.lookup f13 = some ⟨oc13, od13, .func (PySem.W.fnOf "is_square" "Grid.is_square" (defArgs s_Grid_is_square) (defBody s_Grid_is_square) (defScope s_Grid_is_square) .none kV13 dc13 pm13 an13 cd13 ct13), sl13⟩)
    (D13 : PySem.W.codeIn K cd13 "Grid.is_square" = true)
    (K13 : PySem.W.keepIn K (.ref f13) = true)
    (A14 : PySem.W.findIn K (.ref C_Grid) "determinant" = some (some (.ref f14)))
    (I14 : PySem.W.isFn K (.ref f14) = true)
    (L14 : K.lookup f14 = some ⟨oc14, od14, .func (PySem.W.fnOf "determinant" "Grid.determinant" (defArgs s_Grid_determinant) (defBody s_Grid_determinant) (defScope s_Grid_determinant) .none kV14 dc14 pm14 an14 cd14 ct14), sl14⟩)
    (D14 : PySem.W.codeIn K cd14 "Grid.determinant" = true)
    (K14 : PySem.W.keepIn K (.ref f14) = true)
    (A15 : PySem.W.findIn K (.ref C_Grid) "adjugate" = some (some (.ref f15)))
    (I15 : PySem.W.isFn K (.ref f15) = true)
    (L15 : K.lookup f15 = some ⟨oc15, od15, .func (PySem.W.fnOf "adjugate" "Grid.adjugate" (defArgs s_Grid_adjugate) (defBody s_Grid_adjugate) (defScope s_Grid_adjugate) .none kV15 dc15 pm15 an15 cd15 ct15), sl15⟩)
    (D15 : PySem.W.codeIn K cd15 "Grid.adjugate" = true)
    (K15 : PySem.W.keepIn K (.ref f15) = true)
    (A16 : PySem.W.findIn K (.ref C_Grid) "is_unimodular" = some (some (.ref f16)))
    (I16 : PySem.W.isFn K (.ref f16) = true)
    (L16 : K.lookup f16 = some ⟨oc16, od16, .func (PySem.W.fnOf "is_unimodular" "Grid.is_unimodular" (defArgs s_Grid_is_unimodular) (defBody s_Grid_is_unimodular) (defScope s_Grid_is_unimodular) .none kV16 dc16 pm16 an16 cd16 ct16), sl16⟩)
    (D16 : PySem.W.codeIn K cd16 "Grid.is_unimodular" = true)
    (K16 : PySem.W.keepIn K (.ref f16) = true)
    (A17 : PySem.W.nsIn K mainGlobals "checked_rows" = some (some (.ref f17)))
    (L17 : K.lookup f17 = some ⟨oc17, od17, .func (PySem.W.fnOf "checked_rows" "checked_rows" (defArgs s_checked_rows) (defBody s_checked_rows) (defScope s_checked_rows) .none kV17 dc17 pm17 an17 cd17 ct17), sl17⟩)
    (D17 : PySem.W.codeIn K cd17 "checked_rows" = true)
    (K17 : PySem.W.keepIn K (.ref f17) = true)
    (A18 : PySem.W.nsIn K mainGlobals "checked_width" = some (some (.ref f18)))
    (L18 : K.lookup f18 = some ⟨oc18, od18, .func (PySem.W.fnOf "checked_width" "checked_width" (defArgs s_checked_width) (defBody s_checked_width) (defScope s_checked_width) .none kV18 dc18 pm18 an18 cd18 ct18), sl18⟩)
    (D18 : PySem.W.codeIn K cd18 "checked_width" = true)
    (K18 : PySem.W.keepIn K (.ref f18) = true)
    (A19 : PySem.W.nsIn K mainGlobals "check_square" = some (some (.ref f19)))
    (L19 : K.lookup f19 = some ⟨oc19, od19, .func (PySem.W.fnOf "check_square" "check_square" (defArgs s_check_square) (defBody s_check_square) (defScope s_check_square) .none kV19 dc19 pm19 an19 cd19 ct19), sl19⟩)
    (D19 : PySem.W.codeIn K cd19 "check_square" = true)
    (K19 : PySem.W.keepIn K (.ref f19) = true)
    (A20 : PySem.W.nsIn K mainGlobals "_law_cell" = some (some (.ref f20)))
    (L20 : K.lookup f20 = some ⟨oc20, od20, .func (PySem.W.fnOf "_law_cell" "_law_cell" (defArgs s_law_cell) (defBody s_law_cell) (defScope s_law_cell) .none kV20 dc20 pm20 an20 cd20 ct20), sl20⟩)
    (D20 : PySem.W.codeIn K cd20 "_law_cell" = true)
    (K20 : PySem.W.keepIn K (.ref f20) = true)
    (A21 : PySem.W.nsIn K mainGlobals "_law_state" = some (some (.ref f21)))
    (L21 : K.lookup f21 = some ⟨oc21, od21, .func (PySem.W.fnOf "_law_state" "_law_state" (defArgs s_law_state) (defBody s_law_state) (defScope s_law_state) .none kV21 dc21 pm21 an21 cd21 ct21), sl21⟩)
    (D21 : PySem.W.codeIn K cd21 "_law_state" = true)
    (K21 : PySem.W.keepIn K (.ref f21) = true)
    (A22 : PySem.W.nsIn K mainGlobals "_law_take" = some (some (.ref f22)))
    (L22 : K.lookup f22 = some ⟨oc22, od22, .func (PySem.W.fnOf "_law_take" "_law_take" (defArgs s_law_take) (defBody s_law_take) (defScope s_law_take) .none kV22 dc22 pm22 an22 cd22 ct22), sl22⟩)
    (D22 : PySem.W.codeIn K cd22 "_law_take" = true)
    (K22 : PySem.W.keepIn K (.ref f22) = true)
    (A23 : PySem.W.nsIn K mainGlobals "_law_rows" = some (some (.ref f23)))
    (L23 : K.lookup f23 = some ⟨oc23, od23, .func (PySem.W.fnOf "_law_rows" "_law_rows" (defArgs s_law_rows) (defBody s_law_rows) (defScope s_law_rows) .none kV23 dc23 pm23 an23 cd23 ct23), sl23⟩)
    (D23 : PySem.W.codeIn K cd23 "_law_rows" = true)
    (K23 : PySem.W.keepIn K (.ref f23) = true)
    (A24 : PySem.W.nsIn K mainGlobals "_law_product" = some (some (.ref f24)))
    (L24 : K.lookup f24 = some ⟨oc24, od24, .func (PySem.W.fnOf "_law_product" "_law_product" (defArgs s_law_product) (defBody s_law_product) (defScope s_law_product) .none kV24 dc24 pm24 an24 cd24 ct24), sl24⟩)
    (D24 : PySem.W.codeIn K cd24 "_law_product" = true)
    (K24 : PySem.W.keepIn K (.ref f24) = true)
    (A25 : PySem.W.nsIn K mainGlobals "_law_determinant" = some (some (.ref f25)))
    (L25 : K.lookup f25 = some ⟨oc25, od25, .func (PySem.W.fnOf "_law_determinant" "_law_determinant" (defArgs s_law_determinant) (defBody s_law_determinant) (defScope s_law_determinant) .none kV25 dc25 pm25 an25 cd25 ct25), sl25⟩)
    (D25 : PySem.W.codeIn K cd25 "_law_determinant" = true)
    (K25 : PySem.W.keepIn K (.ref f25) = true)
    (A26 : PySem.W.nsIn K mainGlobals "_law_is_rows" = some (some (.ref f26)))
    (L26 : K.lookup f26 = some ⟨oc26, od26, .func (PySem.W.fnOf "_law_is_rows" "_law_is_rows" (defArgs s_law_is_rows) (defBody s_law_is_rows) (defScope s_law_is_rows) .none kV26 dc26 pm26 an26 cd26 ct26), sl26⟩)
    (D26 : PySem.W.codeIn K cd26 "_law_is_rows" = true)
    (K26 : PySem.W.keepIn K (.ref f26) = true)
    (A27 : PySem.W.nsIn K mainGlobals "_law_refused" = some (some (.ref f27)))
    (L27 : K.lookup f27 = some ⟨oc27, od27, .func (PySem.W.fnOf "_law_refused" "_law_refused" (defArgs s_law_refused) (defBody s_law_refused) (defScope s_law_refused) .none kV27 dc27 pm27 an27 cd27 ct27), sl27⟩)
    (D27 : PySem.W.codeIn K cd27 "_law_refused" = true)
    (K27 : PySem.W.keepIn K (.ref f27) = true)
    (A28 : PySem.W.nsIn K mainGlobals "law" = some (some (.ref f28)))
    (L28 : K.lookup f28 = some ⟨oc28, od28, .func (PySem.W.fnOf "law" "law" (defArgs s_law) (defBody s_law) (defScope s_law) .none kV28 dc28 pm28 an28 cd28 ct28), sl28⟩)
    (D28 : PySem.W.codeIn K cd28 "law" = true)
    (K28 : PySem.W.keepIn K (.ref f28) = true)
    (aC_Grid : PySem.W.nsIn K mainGlobals "Grid" = some (some (.ref C_Grid)))
    (pg_Grid : PySem.W.plainGet K C_Grid Str.empty = true)
    (hd_Grid : PySem.W.hasDictIn K C_Grid = true)
    (po_Grid : PySem.W.plainOver K C_Grid = true)
    (sa_Grid : PySem.W.findIn K (.ref C_Grid) "__setattr__" = some (some (.builtin "object.__setattr__")))
    (mk_Grid : PySem.W.makesIn K C_Grid = true)
    (kc_Grid : PySem.W.keepIn K (.ref C_Grid) = true)
    (nr_Grid : PySem.W.findIn K (.ref C_Grid) "rows" = some none)
    (nw_Grid : PySem.W.findIn K (.ref C_Grid) "width" = some none)
    (sf_Grid : PySem.W.selfFirst K C_Grid = true)
    (yc_Grid : PySem.W.findIn K (.ref C_Grid) "__class__" = some (some (.builtin "object.__class__")))
    (yg_Grid : PySem.W.specialIn K (.builtin "object.__class__") "__get__" = some (some (.builtin "getset_descriptor.__get__")))
    (yt_Grid : PySem.W.takesIn K (.builtin "object.__class__") = some true)
    (ym_Grid : PySem.W.mroIn K C_Grid (.type "object") = some true)
    (z_ValueError : PySem.W.nsIn K mainGlobals "ValueError" = some none)
    (z_abs : PySem.W.nsIn K mainGlobals "abs" = some none)
    (z_all : PySem.W.nsIn K mainGlobals "all" = some none)
    (z_bool : PySem.W.nsIn K mainGlobals "bool" = some none)
    (z_enumerate : PySem.W.nsIn K mainGlobals "enumerate" = some none)
    (z_int : PySem.W.nsIn K mainGlobals "int" = some none)
    (z_isinstance : PySem.W.nsIn K mainGlobals "isinstance" = some none)
    (z_len : PySem.W.nsIn K mainGlobals "len" = some none)
    (z_list : PySem.W.nsIn K mainGlobals "list" = some none)
    (z_range : PySem.W.nsIn K mainGlobals "range" = some none)
    (z_sum : PySem.W.nsIn K mainGlobals "sum" = some none)
    (z_tuple : PySem.W.nsIn K mainGlobals "tuple" = some none)
    (z_zip : PySem.W.nsIn K mainGlobals "zip" = some none)
    (aX_Malformed : PySem.W.nsIn K mainGlobals "Malformed" = some (some (.ref X_Malformed)))
    (xX_Malformed : PySem.W.excIn K X_Malformed [.type "ValueError", .type "Exception", .type "BaseException", .type "object"] "ValueError.__new__" = true)
    (kX_Malformed : PySem.W.keepIn K (.ref X_Malformed) = true)
    (bX_Malformed : PySem.W.subIn K (.ref X_Malformed) (.type "BaseException") = some true)
    (tX_Malformed : PySem.W.typeIn K (.ref X_Malformed) = some (.type "type"))
    (iX_Malformed : PySem.W.isClsIn K X_Malformed = true)
    (sX_Malformed : PySem.W.subIn K (.ref X_Malformed) (.ref X_Malformed) = some true)
    : ∃ fd : FuncData, (∀ (s : Shared) (v : Value), BindsTo s fd ⟨[v], []⟩ [("script", v)]) ∧ ∀ base : Heap, K.In base → base.Ns mainGlobals mg → base.NoSeer → FnOk l.prog w K mg base CX0 48 fa fd ["script"] (sp_law K) := by
  have e := hfa.symm.trans (PySem.W.mg_of X G A28)
  cases e
  have F1 := fun_mk (st := s_is_integer) L1 D1 K1
  have b1 := F1.binds (ps := ["value"]) fun _ _ _ _ _ _ us hl => match us, hl with | [_], _ => rfl
  have F2 := fun_mk (st := s_dot) L2 D2 K2
  have b2 := F2.binds (ps := ["a", "b"]) fun _ _ _ _ _ _ us hl => match us, hl with | [_, _], _ => rfl
  have F3 := fun_mk (st := s_determinant_of) L3 D3 K3
  have b3 := F3.binds (ps := ["rows"]) fun _ _ _ _ _ _ us hl => match us, hl with | [_], _ => rfl
  have F4 := fun_mk (st := s_first_with_head) L4 D4 K4
  have b4 := F4.binds (ps := ["rows"]) fun _ _ _ _ _ _ us hl => match us, hl with | [_], _ => rfl
  have F5 := fun_mk (st := s_cleared) L5 D5 K5
  have b5 := F5.binds (ps := ["top", "row", "last"]) fun _ _ _ _ _ _ us hl => match us, hl with | [_, _, _], _ => rfl
  have F6 := fun_mk (st := s_minor) L6 D6 K6
  have b6 := F6.binds (ps := ["rows", "i", "j"]) fun _ _ _ _ _ _ us hl => match us, hl with | [_, _, _], _ => rfl
  have F7 := fun_mk (st := s_adjugate_of) L7 D7 K7
  have b7 := F7.binds (ps := ["rows"]) fun _ _ _ _ _ _ us hl => match us, hl with | [_], _ => rfl
  have F8 := fun_mk (st := s_signed_minor) L8 D8 K8
  have b8 := F8.binds (ps := ["rows", "i", "j"]) fun _ _ _ _ _ _ us hl => match us, hl with | [_, _, _], _ => rfl
  have F9 : FunD K "__init__" "Grid.__init__" (defArgs s_Grid_init) (defBody s_Grid_init) (defScope s_Grid_init) [.non] [] f9 _ := ⟨⟨oc9, od9, _, kV9, dc9, pm9, an9, cd9, ct9, sl9, rfl, L9, D9, .inr ⟨by simp, t9, _, [.none], tn9, rfl, T9, rfl, .cons rfl .nil⟩, .inl rfl⟩, K9⟩
  obtain ⟨ds9, vd9, b9⟩ := F9.binds1 (ps := ["self", "rows", "width"]) 3 1 (by simp) rfl fun _ _ _ _ _ _ _ us its hl hi => match us, hl, its, hi with | [_, _, _], _, [_], _ => ⟨_, rfl, rfl⟩
  obtain rfl : ds9 = [] := by cases vd9; rfl
  have F10 := fun_mk (st := s_Grid_len) L10 D10 K10
  have b10 := F10.binds (ps := ["self"]) fun _ _ _ _ _ _ us hl => match us, hl with | [_], _ => rfl
  have F11 := fun_mk (st := s_Grid_mul) L11 D11 K11
  have b11 := F11.binds (ps := ["self", "other"]) fun _ _ _ _ _ _ us hl => match us, hl with | [_, _], _ => rfl
  have F12 := fun_mk (st := s_Grid_transposed) L12 D12 K12
  have b12 := F12.binds (ps := ["self"]) fun _ _ _ _ _ _ us hl => match us, hl with | [_], _ => rfl
  have F13 := fun_mk (st := s_Grid_is_square) L13 D13 K13
  have b13 := F13.binds (ps := ["self"]) fun _ _ _ _ _ _ us hl => match us, hl with | [_], _ => rfl
  have F14 := fun_mk (st := s_Grid_determinant) L14 D14 K14
  have b14 := F14.binds (ps := ["self"]) fun _ _ _ _ _ _ us hl => match us, hl with | [_], _ => rfl
  have F15 := fun_mk (st := s_Grid_adjugate) L15 D15 K15
  have b15 := F15.binds (ps := ["self"]) fun _ _ _ _ _ _ us hl => match us, hl with | [_], _ => rfl
  have F16 := fun_mk (st := s_Grid_is_unimodular) L16 D16 K16
  have b16 := F16.binds (ps := ["self"]) fun _ _ _ _ _ _ us hl => match us, hl with | [_], _ => rfl
  have F17 := fun_mk (st := s_checked_rows) L17 D17 K17
  have b17 := F17.binds (ps := ["rows"]) fun _ _ _ _ _ _ us hl => match us, hl with | [_], _ => rfl
  have F18 := fun_mk (st := s_checked_width) L18 D18 K18
  have b18 := F18.binds (ps := ["rows", "width"]) fun _ _ _ _ _ _ us hl => match us, hl with | [_, _], _ => rfl
  have F19 := fun_mk (st := s_check_square) L19 D19 K19
  have b19 := F19.binds (ps := ["a"]) fun _ _ _ _ _ _ us hl => match us, hl with | [_], _ => rfl
  have F20 := fun_mk (st := s_law_cell) L20 D20 K20
  have b20 := F20.binds (ps := ["script", "k"]) fun _ _ _ _ _ _ us hl => match us, hl with | [_, _], _ => rfl
  have F21 := fun_mk (st := s_law_state) L21 D21 K21
  have b21 := F21.binds (ps := ["script"]) fun _ _ _ _ _ _ us hl => match us, hl with | [_], _ => rfl
  have F22 := fun_mk (st := s_law_take) L22 D22 K22
  have b22 := F22.binds (ps := ["state", "m"]) fun _ _ _ _ _ _ us hl => match us, hl with | [_, _], _ => rfl
  have F23 := fun_mk (st := s_law_rows) L23 D23 K23
  have b23 := F23.binds (ps := ["state", "height", "width", "most"]) fun _ _ _ _ _ _ us hl => match us, hl with | [_, _, _, _], _ => rfl
  have F24 := fun_mk (st := s_law_product) L24 D24 K24
  have b24 := F24.binds (ps := ["a", "b", "width"]) fun _ _ _ _ _ _ us hl => match us, hl with | [_, _, _], _ => rfl
  have F25 := fun_mk (st := s_law_determinant) L25 D25 K25
  have b25 := F25.binds (ps := ["rows"]) fun _ _ _ _ _ _ us hl => match us, hl with | [_], _ => rfl
  have F26 := fun_mk (st := s_law_is_rows) L26 D26 K26
  have b26 := F26.binds (ps := ["value", "height", "width"]) fun _ _ _ _ _ _ us hl => match us, hl with | [_, _, _], _ => rfl
  have F27 := fun_mk (st := s_law_refused) L27 D27 K27
  have b27 := F27.binds (ps := ["grid"]) fun _ _ _ _ _ _ us hl => match us, hl with | [_], _ => rfl
  have F28 := fun_mk (st := s_law) L28 D28 K28
  have b28 := F28.binds (ps := ["script"]) fun _ _ _ _ _ _ us hl => match us, hl with | [_], _ => rfl
  let T : Top K mg := { a_is_integer := f1, d_is_integer := _, F_is_integer := F1, b_is_integer := b1, g_is_integer := PySem.W.mg_of X G A1, a_dot := f2, d_dot := _, F_dot := F2, b_dot := b2, g_dot := PySem.W.mg_of X G A2, a_determinant_of := f3, d_determinant_of := _, F_determinant_of := F3, b_determinant_of := b3, g_determinant_of := PySem.W.mg_of X G A3, a_first_with_head := f4, d_first_with_head := _, F_first_with_head := F4, b_first_with_head := b4, g_first_with_head := PySem.W.mg_of X G A4, a_cleared := f5, d_cleared := _, F_cleared := F5, b_cleared := b5, g_cleared := PySem.W.mg_of X G A5, a_minor := f6, d_minor := _, F_minor := F6, b_minor := b6, g_minor := PySem.W.mg_of X G A6, a_adjugate_of := f7, d_adjugate_of := _, F_adjugate_of := F7, b_adjugate_of := b7, g_adjugate_of := PySem.W.mg_of X G A7, a_signed_minor := f8, d_signed_minor := _, F_signed_minor := F8, b_signed_minor := b8, g_signed_minor := PySem.W.mg_of X G A8, a_Grid_init := f9, d_Grid_init := _, F_Grid_init := F9, b_Grid_init := b9, a_Grid_len := f10, d_Grid_len := _, F_Grid_len := F10, b_Grid_len := b10, m_Grid_len := ⟨A10, I10, K10⟩, a_Grid_mul := f11, d_Grid_mul := _, F_Grid_mul := F11, b_Grid_mul := b11, m_Grid_mul := ⟨A11, I11, K11⟩, a_Grid_transposed := f12, d_Grid_transposed := _, F_Grid_transposed := F12, b_Grid_transposed := b12, m_Grid_transposed := ⟨A12, I12, K12⟩, a_Grid_is_square := f13, d_Grid_is_square := _, F_Grid_is_square := F13, b_Grid_is_square := b13, m_Grid_is_square := ⟨A13, I13, K13⟩, a_Grid_determinant := f14, d_Grid_determinant := _, F_Grid_determinant := F14, b_Grid_determinant := b14, m_Grid_determinant := ⟨A14, I14, K14⟩, a_Grid_adjugate := f15, d_Grid_adjugate := _, F_Grid_adjugate := F15, b_Grid_adjugate := b15, m_Grid_adjugate := ⟨A15, I15, K15⟩, a_Grid_is_unimodular := f16, d_Grid_is_unimodular := _, F_Grid_is_unimodular := F16, b_Grid_is_unimodular := b16, m_Grid_is_unimodular := ⟨A16, I16, K16⟩, a_checked_rows := f17, d_checked_rows := _, F_checked_rows := F17, b_checked_rows := b17, g_checked_rows := PySem.W.mg_of X G A17, a_checked_width := f18, d_checked_width := _, F_checked_width := F18, b_checked_width := b18, g_checked_width := PySem.W.mg_of X G A18, a_check_square := f19, d_check_square := _, F_check_square := F19, b_check_square := b19, g_check_square := PySem.W.mg_of X G A19, a_law_cell := f20, d_law_cell := _, F_law_cell := F20, b_law_cell := b20, g_law_cell := PySem.W.mg_of X G A20, a_law_state := f21, d_law_state := _, F_law_state := F21, b_law_state := b21, g_law_state := PySem.W.mg_of X G A21, a_law_take := f22, d_law_take := _, F_law_take := F22, b_law_take := b22, g_law_take := PySem.W.mg_of X G A22, a_law_rows := f23, d_law_rows := _, F_law_rows := F23, b_law_rows := b23, g_law_rows := PySem.W.mg_of X G A23, a_law_product := f24, d_law_product := _, F_law_product := F24, b_law_product := b24, g_law_product := PySem.W.mg_of X G A24, a_law_determinant := f25, d_law_determinant := _, F_law_determinant := F25, b_law_determinant := b25, g_law_determinant := PySem.W.mg_of X G A25, a_law_is_rows := f26, d_law_is_rows := _, F_law_is_rows := F26, b_law_is_rows := b26, g_law_is_rows := PySem.W.mg_of X G A26, a_law_refused := f27, d_law_refused := _, F_law_refused := F27, b_law_refused := b27, g_law_refused := PySem.W.mg_of X G A27, a_law := fa, d_law := _, F_law := F28, b_law := b28, g_law := PySem.W.mg_of X G A28, C_Grid := C_Grid, g_Grid := PySem.W.mg_of X G aC_Grid, cl_Grid := ⟨pg_Grid, hd_Grid, po_Grid, sa_Grid⟩, mk_Grid := ⟨mk_Grid, A9, I9, kc_Grid⟩, n_rows := nr_Grid, n_width := nw_Grid, sf_Grid := sf_Grid, kc_Grid := yc_Grid, kg_Grid := yg_Grid, kt_Grid := yt_Grid, km_Grid := ym_Grid, z_ValueError := PySem.W.mg_none_of X G z_ValueError, z_abs := PySem.W.mg_none_of X G z_abs, z_all := PySem.W.mg_none_of X G z_all, z_bool := PySem.W.mg_none_of X G z_bool, z_enumerate := PySem.W.mg_none_of X G z_enumerate, z_int := PySem.W.mg_none_of X G z_int, z_isinstance := PySem.W.mg_none_of X G z_isinstance, z_len := PySem.W.mg_none_of X G z_len, z_list := PySem.W.mg_none_of X G z_list, z_range := PySem.W.mg_none_of X G z_range, z_sum := PySem.W.mg_none_of X G z_sum, z_tuple := PySem.W.mg_none_of X G z_tuple, z_zip := PySem.W.mg_none_of X G z_zip, X_Malformed := X_Malformed, gX_Malformed := PySem.W.mg_of X G aX_Malformed, xX_Malformed := xX_Malformed, kX_Malformed := kX_Malformed, bX_Malformed := bX_Malformed, tX_Malformed := tX_Malformed, iX_Malformed := iX_Malformed, sX_Malformed := sX_Malformed }
  exact ⟨PySem.W.fnOf "law" "law" (defArgs s_law) (defBody s_law) (defScope s_law) .none kV28 dc28 pm28 an28 cd28 ct28, fun s v => .of_eq rfl, fun base _ _ hN => ok_law (w := w) T hN hT⟩
end K02
open PySem PySem.W PyProof.Rows
set_option maxRecDepth 100000 in
set_option maxHeartbeats 16000000 in
theorem PySem.Challenge.cw_gridmetric_k02_determinants_holds : PySem.Challenge.rw_gridmetric_k02_determinants.Holds := by
  w_on; o_law; k_head; (case hw => w_witness2)
  k_fill
  refine Gm.walk_ofN (n := 63) (k := 48) (sp := K02.sp_law) (x := "script") rfl (by decide) rfl ⟨rfl, by decide, by decide⟩ (by decide +kernel) (fun w h Y => PySem.W.kIn_of Y) ?F ?S
  case F =>
    intro w mg fa h Y KX G hmg
    refine' K02.all_mk KX G hmg rfl ?A1 ?L1 ?D1 ?K1 ?A2 ?L2 ?D2 ?K2 ?A3 ?L3 ?D3 ?K3 ?A4 ?L4 ?D4 ?K4 ?A5 ?L5 ?D5 ?K5 ?A6 ?L6 ?D6 ?K6 ?A7 ?L7 ?D7 ?K7 ?A8 ?L8 ?D8 ?K8 ?A9 ?I9 ?L9 ?T9 ?D9 ?K9 ?A10 ?I10 ?L10 ?D10 ?K10 ?A11 ?I11 ?L11 ?D11 ?K11 ?A12 ?I12 ?L12 ?D12 ?K12 ?A13 ?I13 ?L13 ?D13 ?K13 ?A14 ?I14 ?L14 ?D14 ?K14 ?A15 ?I15 ?L15 ?D15 ?K15 ?A16 ?I16 ?L16 ?D16 ?K16 ?A17 ?L17 ?D17 ?K17 ?A18 ?L18 ?D18 ?K18 ?A19 ?L19 ?D19 ?K19 ?A20 ?L20 ?D20 ?K20 ?A21 ?L21 ?D21 ?K21 ?A22 ?L22 ?D22 ?K22 ?A23 ?L23 ?D23 ?K23 ?A24 ?L24 ?D24 ?K24 ?A25 ?L25 ?D25 ?K25 ?A26 ?L26 ?D26 ?K26 ?A27 ?L27 ?D27 ?K27 ?A28 ?L28 ?D28 ?K28 ?aC_Grid ?pg_Grid ?hd_Grid ?po_Grid ?sa_Grid ?mk_Grid ?kc_Grid ?nr_Grid ?nw_Grid ?sf_Grid ?yc_Grid ?yg_Grid ?yt_Grid ?ym_Grid ?z_ValueError ?z_abs ?z_all ?z_bool ?z_enumerate ?z_int ?z_isinstance ?z_len ?z_list ?z_range ?z_sum ?z_tuple ?z_zip ?aX_Malformed ?xX_Malformed ?kX_Malformed ?bX_Malformed ?tX_Malformed ?iX_Malformed ?sX_Malformed
    (case aC_Grid => k_is)
    (case aX_Malformed => k_is)
    (case A1 => k_is)
    (case L1 => k_is)
    (case D1 => k_is)
    (case K1 => k_is)
    (case A2 => k_is)
    (case L2 => k_is)
    (case D2 => k_is)
    (case K2 => k_is)
    (case A3 => k_is)
    (case L3 => k_is)
    (case D3 => k_is)
    (case K3 => k_is)
    (case A4 => k_is)
    (case L4 => k_is)
    (case D4 => k_is)
    (case K4 => k_is)
    (case A5 => k_is)
    (case L5 => k_is)
    (case D5 => k_is)
    (case K5 => k_is)
    (case A6 => k_is)
    (case L6 => k_is)
    (case D6 => k_is)
    (case K6 => k_is)
    (case A7 => k_is)
    (case L7 => k_is)
    (case D7 => k_is)
    (case K7 => k_is)
    (case A8 => k_is)
    (case L8 => k_is)
    (case D8 => k_is)
    (case K8 => k_is)
    (case A9 => k_is)
    (case I9 => k_is)
    (case L9 => k_is)
    (case T9 => k_is)
    (case D9 => k_is)
    (case K9 => k_is)
    (case A10 => k_is)
    (case I10 => k_is)
    (case L10 => k_is)
    (case D10 => k_is)
    (case K10 => k_is)
    (case A11 => k_is)
    (case I11 => k_is)
    (case L11 => k_is)
    (case D11 => k_is)
    (case K11 => k_is)
    (case A12 => k_is)
    (case I12 => k_is)
    (case L12 => k_is)
    (case D12 => k_is)
    (case K12 => k_is)
    (case A13 => k_is)
    (case I13 => k_is)
    (case L13 => k_is)
    (case D13 => k_is)
    (case K13 => k_is)
    (case A14 => k_is)
    (case I14 => k_is)
    (case L14 => k_is)
    (case D14 => k_is)
    (case K14 => k_is)
    (case A15 => k_is)
    (case I15 => k_is)
    (case L15 => k_is)
    (case D15 => k_is)
    (case K15 => k_is)
    (case A16 => k_is)
    (case I16 => k_is)
    (case L16 => k_is)
    (case D16 => k_is)
    (case K16 => k_is)
    (case A17 => k_is)
    (case L17 => k_is)
    (case D17 => k_is)
    (case K17 => k_is)
    (case A18 => k_is)
    (case L18 => k_is)
    (case D18 => k_is)
    (case K18 => k_is)
    (case A19 => k_is)
    (case L19 => k_is)
    (case D19 => k_is)
    (case K19 => k_is)
    (case A20 => k_is)
    (case L20 => k_is)
    (case D20 => k_is)
    (case K20 => k_is)
    (case A21 => k_is)
    (case L21 => k_is)
    (case D21 => k_is)
    (case K21 => k_is)
    (case A22 => k_is)
    (case L22 => k_is)
    (case D22 => k_is)
    (case K22 => k_is)
    (case A23 => k_is)
    (case L23 => k_is)
    (case D23 => k_is)
    (case K23 => k_is)
    (case A24 => k_is)
    (case L24 => k_is)
    (case D24 => k_is)
    (case K24 => k_is)
    (case A25 => k_is)
    (case L25 => k_is)
    (case D25 => k_is)
    (case K25 => k_is)
    (case A26 => k_is)
    (case L26 => k_is)
    (case D26 => k_is)
    (case K26 => k_is)
    (case A27 => k_is)
    (case L27 => k_is)
    (case D27 => k_is)
    (case K27 => k_is)
    (case A28 => k_is)
    (case L28 => k_is)
    (case D28 => k_is)
    (case K28 => k_is)
    (case pg_Grid => k_is)
    (case hd_Grid => k_is)
    (case po_Grid => k_is)
    (case sa_Grid => k_is)
    (case mk_Grid => k_is)
    (case kc_Grid => k_is)
    (case nr_Grid => k_is)
    (case nw_Grid => k_is)
    (case sf_Grid => k_is)
    (case yc_Grid => k_is)
    (case yg_Grid => k_is)
    (case yt_Grid => k_is)
    (case ym_Grid => k_is)
    (case z_ValueError => k_is)
    (case z_abs => k_is)
    (case z_all => k_is)
    (case z_bool => k_is)
    (case z_enumerate => k_is)
    (case z_int => k_is)
    (case z_isinstance => k_is)
    (case z_len => k_is)
    (case z_list => k_is)
    (case z_range => k_is)
    (case z_sum => k_is)
    (case z_tuple => k_is)
    (case z_zip => k_is)
    (case xX_Malformed => k_exc)
    (case kX_Malformed => k_is)
    (case bX_Malformed => k_is)
    (case tX_Malformed => k_is)
    (case iX_Malformed => k_is)
    (case sX_Malformed => first | rfl | k_is)
  case S =>
    intro K H a ns hl hb hs
    exact ⟨a, ns, rfl, hs, hl, hb, fun _ => rfl⟩
