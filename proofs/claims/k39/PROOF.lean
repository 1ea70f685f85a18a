import PyProof.Rows.All
import Wide.All
import OpenK.AllK
import Wide.FinOn
import HandS.WordsExc
import HandS.ForMost
import HandS.Exc
import HandS.TryOnly
import HandS.ExcOwn
import HandS.IsInst
import HandS.Zip
import HandS.Walk
import HandS.Wide
import HandS.WideBits
import HandS.Conv
import HandS.Codes
import HandS.Defaults
import HandS.TupAny
import HandS.Style
import HandS.Gcd
import HandS.EndBits
import HandS.Sort
import HandS.Slots
import HandS.SlotsOwn
import KE.GoesMore
import KE.KOpsOwn
import HandS.HeadEnd
import HandS.More
import PyProof.InstNe
import HandS.TupMul
import KE.KItemsList
import KE.KDictZip
import HandS.IterVal
import KE.KOwnIter
import OpenK.KMeth
import HandS.Base
import HandS.Call
import HandS.ExcIs
import HandS.ExcField
import KE.KExcIs
import HandS.Small
import PySem.Challenge.RW_gridmetric_k39_partings
set_option Elab.async false
set_option linter.all false
set_option maxRecDepth 100000
set_option maxHeartbeats 40000000
/-! Further rules over the layer: // by any positive divisor; a range that is a value, walked; enumerate of a tuple; operators of an own class. -/
namespace Gm
open PySem PySem.Spec PyProof.Rows L2
section
variable {X : Cx}
/-! ### // by any positive divisor -/
theorem op_fdivP {env : Env} {l : List Env} (hN : X.base.NoSeer) (hst : X.stack = env :: l) (hgen : env.scope.isGenerator = false) (hco : env.scope.isCoroutine = false) (hb : env.builtins = builtinsNs) (hg : env.globals = mainGlobals)
    (ht : X.prog.given.tree = none) (hd : X.A.depth + 100 < recursionLimit) : OpR X (binaryOp .FloorDiv) (rI (fun _ j => 0 < j) fun i j => .int (i / j)) := by
  intro pn s σ H x y v u Q I rx ry h
  obtain ⟨i, j, rfl, rfl, hCond, q⟩ := h
  obtain ⟨t, rfl⟩ := rx
  obtain ⟨t', rfl⟩ := ry
  have h1 : (0 : Int) < j := hCond
  have hs : SeerAt (model X.prog X.w) X.A s.heap := PySem.SeerAt.of (hN.keeps I.bk) ht (I.ok.frames.trans (congrArg some hst)) hgen hco hb hg
  refine floordiv_int (by omega) ?_ (.inr (PySem.PylongRoom.of I.nolimit hd hs))
  rw [Int.fdiv_eq_ediv_of_nonneg i (by omega)]
  exact ⟨.int (i / j), H, I.tok _, ⟨_, rfl⟩, q⟩
theorem op_fdivQ {env : Env} {l : List Env} (hN : X.base.NoSeer) (hst : X.stack = env :: l) (hgen : env.scope.isGenerator = false) (hco : env.scope.isCoroutine = false) (hb : env.builtins = builtinsNs) (hg : env.globals = mainGlobals)
    (ht : X.prog.given.tree = none) (hd : X.A.depth + 100 < recursionLimit) : OpR X (binaryOp .FloorDiv) (rI (fun _ j => j ≠ 0) fun i j => .int (i.fdiv j)) := by
  intro pn s σ H x y v u Q I rx ry h
  obtain ⟨i, j, rfl, rfl, hCond, q⟩ := h
  obtain ⟨t, rfl⟩ := rx
  obtain ⟨t', rfl⟩ := ry
  have hs : SeerAt (model X.prog X.w) X.A s.heap := PySem.SeerAt.of (hN.keeps I.bk) ht (I.ok.frames.trans (congrArg some hst)) hgen hco hb hg
  refine floordiv_int hCond ?_ (.inr (PySem.PylongRoom.of I.nolimit hd hs))
  exact ⟨.int (i.fdiv j), H, I.tok _, ⟨_, rfl⟩, q⟩
theorem room100 {k : Nat} {A : Around} (hr : Room k A) (hk : 40 ≤ k) : A.depth + 100 < recursionLimit := by
  have := hr.dp
  omega
/-! ### a range as a value, and walked -/
theorem cr_range1 : CallR X (.type "range") (fun vs H Q => ∃ j, vs = [V.int j] ∧ ∀ p, H p = none → Q (.ref p) (upd H p (.rng 0 j))) := by
  intro pn s σ H vs argv Q I r h
  obtain ⟨j, rfl, q⟩ := h
  cases r with
  | cons r rr =>
    cases rr
    obtain ⟨t, rfl⟩ := r
    exact call_range_1 ⟨.ref s.heap.objs.size, upd H s.heap.objs.size (.rng 0 j), I.laid (t' := s.toks + 1 + 1) (fun b o e => Heap.get?_push_of_some _ e) (Nat.le_refl _) ⟨_, _, _, Heap.get?_push_size _ rfl⟩, rfl, q _ (I.hok.fresh (Nat.le_refl _))⟩
def iRv (te : TE) : TI := fun σ H R => te σ H fun v H1 => ∃ a lo hi, v = .ref a ∧ H1 a = some (.rng lo hi) ∧ (-(2 ^ 62) ≤ lo ∧ lo < 2 ^ 62 ∧ -(2 ^ 62) ≤ hi ∧ hi < 2 ^ 62) ∧ R (Itr lo (hi - lo).toNat) H1
theorem pi_rngv {tg e : Expr} {te : TE} (he : PE X e te) : PI X tg e (iRv te) := by
  refine ⟨fun pn s σ H R I h => ?_⟩
  refine thn (he.run pn s σ H _ I h) fun v s1 ⟨x, H1, J1, rel1, post1⟩ => ?_
  obtain ⟨a, lo, hi, ex, ha, ⟨post1, q2, q3, q4⟩, q⟩ := post1
  subst ex
  cases rel1
  obtain ⟨t, u, w, hr⟩ := J1.hok a _ ha
  refine wpAny_pyIter_range (show IsRange s1.heap a lo hi 1 t u w from hr) (small_one post1 q2 q3 q4) ?_
  refine ⟨s1.heap.objs.size, [s1.heap.objs.size], _, _, H1, rfl, J1.kept (t' := s1.toks) fun b o e => Heap.get?_push_of_some _ e, turn_range _ lo (hi - lo).toNat, ?_, fun b hb => ?_, q⟩
  · have eLo : lo + ((0 : Nat) : Int) * 1 = lo := by simp
    have eHi : (((hi - lo).toNat : Nat) : Int) - ((0 : Nat) : Int) = Builtin.Range.rangeSize lo hi 1 := by rw [rangeSize_one]; split <;> omega
    show IsRangeIter _ _ (lo + ((0 : Nat) : Int) * 1) ((((hi - lo).toNat : Nat) : Int) - ((0 : Nat) : Int)) 1
    rw [eLo, eHi]
    exact Heap.get?_push_size _ rfl
  · have e : b = s1.heap.objs.size := by simpa using hb
    subst e
    exact J1.fpOk (Nat.le_refl _) (J1.hok.fresh (Nat.le_refl _))
end
end Gm
namespace Gm
open PySem PySem.Spec PyProof.Rows L2
open AutoSeq1 (wpAny_loadPart')
/-! ### enumerate of a tuple -/
theorem meets_enumerate_newT (l : Addr) (items : Array Value) (n : Nat) (dc : Option Addr) (slo : Array (Option Value)) :
    Meets (Builtin.«enumerate.__new__» ⟨[.type "enumerate", .ref l], []⟩) (fun _ R s => s.heap.get? l = some { cls := .type "tuple", dict := dc, data := .seq items n, slots := slo } ∧
      R (.ok (.ret (.ref (s.heap.push { cls := .type "tuple_iterator", data := .fields #[.ref l, .int 0 0] }).objs.size)))
        { s with heap := (s.heap.push { cls := .type "tuple_iterator", data := .fields #[.ref l, .int 0 0] }).push { cls := .type "enumerate", data := .fields #[.none, .bool false, .ref s.heap.objs.size, rawInt 0, .none, .none] } }) :=
  .of_wp fun prog w A R s h => by
    obtain ⟨heap0, g, d, tk0, os0⟩ := s; obtain ⟨hGet, h⟩ := h
    have hsub := sub_enumerate
    have hL : Heap.IsTuple (Shared.heap ⟨heap0, g, d, tk0, os0⟩) l items := ⟨_, hGet, rfl, n, rfl⟩
    wp_walk using wpAny_loadPart' hGet
    refine wpAny_stack_any fun stt => wpAny_pure ?_
    split
    · rename_i c _ _ _ _ _
      cases (c == Value.type "enumerate")
      · wp_walk using wpAny_loadPart' hGet, wpAny_pyIter_tuple hL
        exact ⟨_, rfl, h⟩
      · wp_walk using wpAny_loadPart' hGet, wpAny_pyIter_tuple hL
        exact ⟨_, rfl, h⟩
    · wp_walk using wpAny_loadPart' hGet, wpAny_pyIter_tuple hL
      exact ⟨_, rfl, h⟩
section
variable {prog : Program} {w : World} {A : Around} {E : Value → Shared → Prop} {s : Shared}
theorem call_enumerate_tuple {l : Addr} {items : Array Value} {Q : Value → Shared → Prop} (hL : s.heap.IsTuple l items)
    (h : ∀ h', IsEnum h' (s.heap.objs.size + 1) s.heap.objs.size 0 .none → h'.IsTupleIter s.heap.objs.size l 0 → h'.objs.size = s.heap.objs.size + 2 →
      (∀ b o, s.heap.get? b = some o → h'.get? b = some o) → Q (.ref (s.heap.objs.size + 1)) { s with heap := h' }) :
    wpAny (model prog w) A (call (.type "enumerate") [.ref l]) Q E s := by
  obtain ⟨⟨c, dc, dd, slo⟩, hGet, hCls, n, hDat⟩ := hL
  replace hCls : c = .type "tuple" := hCls
  replace hDat : dd = .seq items n := hDat
  subst hCls hDat
  refine callType_new F.called_enumerate (by decide) (F.typeCall_enumerate_1 _) (F.newCall_enumerate_1 _) (fun obj => F.args_object_init_2 obj _) F.entry_enumerate_new
    (meets_enumerate_newT l items n dc slo) ⟨hGet, ?_⟩
  have hLen : (s.heap.push { cls := .type "tuple_iterator", data := .fields #[.ref l, .int 0 0] }).objs.size = s.heap.objs.size + 1 := Heap.size_push ..
  show _ ∧ _
  rw [hLen]
  have hEn : IsEnum ((s.heap.push { cls := .type "tuple_iterator", data := .fields #[.ref l, .int 0 0] }).push
      { cls := .type "enumerate", data := .fields #[.none, .bool false, .ref s.heap.objs.size, rawInt 0, .none, .none] }) (s.heap.objs.size + 1) s.heap.objs.size 0 .none := by
    have := Heap.get?_push_size (s.heap.push { cls := .type "tuple_iterator", data := .fields #[.ref l, .int 0 0] })
      (o := { cls := .type "enumerate", data := .fields #[.none, .bool false, .ref s.heap.objs.size, rawInt 0, .none, .none] }) rfl
    rw [hLen] at this; exact this
  refine ⟨⟨_, hEn, rfl⟩, h _ hEn ⟨_, Heap.get?_push_of_some _ (Heap.get?_push_size _ rfl), rfl, rfl⟩ (by rw [Heap.size_push, hLen]) fun b o x => Heap.get?_push_of_some _ (Heap.get?_push_of_some _ x)⟩
end
def IteT (K : PySem.W.Frag) (a : Addr) : It :=
  ⟨fun i H => ∃ (xv : List V) (x : V), SqT K H a xv ∧ xv[i]? = some x, fun i H v H' => ∃ T0 x, v = .ref T0 ∧ H T0 = none ∧ H' = upd H T0 (.tup [.int (i : Nat), x]) ∧ ∀ xv, SqT K H a xv → xv[i]? = some x, fun i H => ∃ xv : List V, SqT K H a xv ∧ xv.length ≤ i⟩
theorem turn_enumT {P : Program} {w : World} {K : PySem.W.Frag} {elts : List Expr} {kk : Nat} {tpos : Pos} (a e it : Addr) (hAi : a ≠ it) :
    Turn P w K (.Tuple elts kk tpos) (IteT K a) [e, it] e (fun i h => (∃ ol, IsEnum h e it ((i : Nat) : Int) ol) ∧ h.IsTupleIter it a i ∧ e ≠ it) where
  mem := by simp
  obj := fun i h stt b hBm => by
    obtain ⟨⟨ol, hEn⟩, ⟨o, ho, hCls, hDat⟩, _⟩ := stt
    have ee : b = e ∨ b = it := by simpa using hBm
    rcases ee with zq | zq
    · rw [zq]; exact ⟨_, hEn, fun v q => nomatch q⟩
    · rw [zq]; exact ⟨o, ho, fun v q => by rw [hDat] at q; cases q⟩
  keep := fun i h h' stt k => let ⟨⟨ol, hEn⟩, hIx, hDif⟩ := stt; ⟨⟨ol, k e (by simp) _ hEn⟩, hIx.at fun o q => k it (by simp) o q, hDif⟩
  item := by
    intro X hP hw hK hCls i pn s σ H E I hFp stt hGo
    subst hP hw hK
    obtain ⟨⟨ol, hEn⟩, hTi, hDif⟩ := stt
    obtain ⟨xv, x, hSq, hXi⟩ := hGo
    obtain ⟨vals, hvals, p, hLen⟩ := I.tuple hSq
    obtain ⟨u, hUi, rUi⟩ := hvals.get hXi
    have lEn : e < s.heap.objs.size := Heap.lt_size hEn
    have lTi : it < s.heap.objs.size := by obtain ⟨_, q, _⟩ := hTi; exact Heap.lt_size q
    have p' : s.heap.IsTuple a vals.toArray := p
    have hae : a ≠ e := by
      intro zq
      subst zq
      obtain ⟨o1, e1, c1, _⟩ := p'
      rw [hEn] at e1
      cases e1
      exact absurd (Value.type.inj c1) (by decide)
    have hLt : i < vals.toArray.size := by
      have := (List.getElem?_eq_some_iff.mp hUi).1
      simpa using this
    refine wpAny_pyNext_enum_itemD (Draws.tuple (prog := X.prog) (w := X.w) (A := X.A.in1) (I.ok.hd hCls) it a hAi vals.toArray) hEn ⟨hTi, p'⟩ hLt hDif (by simp [hDif, Ne.symm hae]) fun x' h' tk0 hP ho st' hTy hSz hKp => ?_
    obtain ⟨hit', p2⟩ := st'
    have hx' : x' = u := by
      have : vals[i]? = some x' := by simpa using hP
      rw [hUi] at this
      exact (Option.some.inj this).symm
    subst hx'
    refine ⟨_, rfl, wpAny_letOwnedTupleGo_enum (s := { s with heap := h', toks := tk0 + 1 }) ho fun h'' he' sBig => ?_⟩
    have hTy2 : h''.get? s.heap.objs.size = some { cls := .type "tuple", data := .seq #[.int i tk0, x'] } := (sBig.2 _ (Nat.ne_of_gt lEn)).trans hTy
    have nw : ObjOk X.prog X.w (upd H s.heap.objs.size (.tup [.int (i : Nat), x])) h'' s.heap.objs.size (.tup [.int (i : Nat), x]) :=
      ⟨by show 2 ≤ sizeLine; decide, [.int i tk0, x'], .cons ⟨_, rfl⟩ (.cons rUi .nil), ⟨_, hTy2, rfl, _, rfl⟩⟩
    have J1 : Inv X pn σ (upd H s.heap.objs.size (.tup [.int (i : Nat), x])) { s with heap := h'', toks := tk0 + 1 } :=
      I.turnedNew (ch := [e, it]) (fun b ob hBm q => (sBig.2 b (fun zq => hBm (by simp [zq]))).trans (hKp b ob (fun zq => hBm (by simp [zq])) (fun zq => hBm (by simp [zq])) q)) hFp (Nat.le_refl _) nw
    refine ⟨.ref s.heap.objs.size, _, J1, rfl, ⟨_, x, rfl, I.hok.fresh (Nat.le_refl _), rfl, fun yv hy => by rw [I.tuple_inj hy hSq]; exact hXi⟩, ⟨⟨x', ?_⟩, hit'.at fun o q => (sBig.2 it (Ne.symm hDif)).trans q, hDif⟩, fun b hBm => ?_⟩
    · have e1 : ((i + 1 : Nat) : Int) = (i : Int) + 1 := by omega
      rw [e1]; exact he'
    · have hBm2 : b < s.heap.objs.size := by
        have ee : b = e ∨ b = it := by simpa using hBm
        rcases ee with zq | zq
        · rw [zq]; exact lEn
        · rw [zq]; exact lTi
      rw [upd_ne (Nat.ne_of_lt hBm2)]
      exact (hFp b hBm).1
  done := by
    intro X hP hw hK hCls i pn s σ H E I hFp stt hGo
    subst hP hw hK
    obtain ⟨⟨ol, hEn⟩, hTi, hDif⟩ := stt
    obtain ⟨xv, hSq, hXi⟩ := hGo
    obtain ⟨vals, hvals, p, hLen⟩ := I.tuple hSq
    obtain ⟨f0, f1, f2, f3, f4, f5⟩ := hFp it (by simp)
    have hGet := hvals.length
    have p' : s.heap.IsTuple a vals.toArray := p
    have hTy : s.TypeIs (.ref e) "enumerate" := ⟨_, hEn, rfl⟩
    unfold pyNext
    refine wpAny_bind (wpAny_attempt (wpAny_callSpecial?_slot (name := Str.ofString "__next__") hTy F.slot_enumerate_next
      (wpAny_call_entry F.slot_enumerate_next hTy F.entry_enumerate_next ?_ (F.args_enumerate_next_1 _))))
    show wpAny _ _ (field (.ref e) 2 >>= _) _ _ _
    refine wpAny_bind (wpAny_field hEn rfl (x := .ref it) rfl ?_)
    refine wpAny_bind (wpAny_nextOf_tuple_end (I.ok.hd hCls) hTi p' (by simp; omega) fun h' x he' hx' => ?_)
    obtain ⟨o, ho, hc'⟩ := hx'
    refine wpAny_bind (wpAny_isInstance (T := "StopIteration") (b := true) ⟨o, ho, hc'⟩ isSubtype_stop ?_)
    exact wpAny_pure ⟨rfl, I.turned (t' := s.toks) (fun b o hBm q => he' b o hBm q) f0 f1 f3 f4 f5⟩
  self := fun A i s Q E stt h => let ⟨⟨_, hEn⟩, _⟩ := stt; wpAny_pyIter_enum hEn h
def iEnumA (K : PySem.W.Frag) (ta : TA) : TI := fun σ H R => ta σ H fun wsv HA => ∃ a xv, wsv = [.ref a] ∧ ((SqL K HA a xv ∧ R (Ite K a) HA) ∨ (SqT K HA a xv ∧ R (IteT K a) HA))
theorem pi_enumA {X : Cx} {e : Expr} {ta : TA} {p pos tpos : Pos} {elts : List Expr} {kk : Nat} (hGo : Gl X "enumerate") (hm : X.mg "enumerate" = none) (ha : PA X [e] ta) (hs : starEach [e] X.env = [(false, eval e X.env)] := by rfl) :
    PI X (.Tuple elts kk tpos) (.Call (.Name "enumerate" p) [e] [] pos) (iEnumA X.K ta) := by
  refine ⟨fun pn s σ H R I h => ?_⟩
  refine Call_ (ld_blt I hGo hm boot_enumerate (PyProof.Rows.callWith_type1 (thn (ha.run pos pn s σ H _ I h) fun argv sA ⟨wsv, HA, J1, rel1, post1⟩ => ?_) hs rfl))
  obtain ⟨a, xv, ex, hSq⟩ := post1
  subst ex
  cases rel1 with
  | cons r rr =>
    cases rr
    cases r
    have hFin : ∀ b ∈ [sA.heap.objs.size + 1, sA.heap.objs.size], sA.heap.objs.size ≤ b := fun b hBm => by
      have ee : b = sA.heap.objs.size + 1 ∨ b = sA.heap.objs.size := by simpa using hBm
      rcases ee with zq | zq
      · rw [zq]; exact Nat.le_add_right _ _
      · rw [zq]; exact Nat.le_refl _
    rcases hSq with ⟨hSq, q⟩ | ⟨hSq, q⟩
    · obtain ⟨vals, hvals, p', hLen⟩ := J1.list hSq
      refine call_enumerate_list p'.isList fun h' hEn hTi hSz hKp => wpAny_pyIter_enum hEn ?_
      have J2 : Inv X pn σ HA { sA with heap := h' } := J1.kept (t' := sA.toks) hKp
      exact ⟨sA.heap.objs.size + 1, [sA.heap.objs.size + 1, sA.heap.objs.size], _, _, HA, rfl, J2, turn_enum a (sA.heap.objs.size + 1) sA.heap.objs.size, ⟨⟨.none, hEn⟩, hTi, Nat.succ_ne_self _⟩, fun b hBm => J1.fpOk (hFin b hBm) (J1.hok.fresh (hFin b hBm)), q⟩
    · obtain ⟨vals, hvals, p', hLen⟩ := J1.tuple hSq
      have hAl : a ≠ sA.heap.objs.size := by
        obtain ⟨o, e, _⟩ := (show sA.heap.IsTuple a vals.toArray from p')
        exact Nat.ne_of_lt (Heap.lt_size e)
      refine call_enumerate_tuple (show sA.heap.IsTuple a vals.toArray from p') fun h' hEn hTi hSz hKp => wpAny_pyIter_enum hEn ?_
      have J2 : Inv X pn σ HA { sA with heap := h' } := J1.kept (t' := sA.toks) hKp
      exact ⟨sA.heap.objs.size + 1, [sA.heap.objs.size + 1, sA.heap.objs.size], _, _, HA, rfl, J2, turn_enumT a (sA.heap.objs.size + 1) sA.heap.objs.size hAl, ⟨⟨.none, hEn⟩, hTi, Nat.succ_ne_self _⟩, fun b hBm => J1.fpOk (hFin b hBm) (J1.hok.fresh (hFin b hBm)), q⟩
theorem walk_enumT {K : PySem.W.Frag} {a : Addr} {xv : List V} : Walk (IteT K a) xv.length (fun H => SqT K H a xv) (YPair (fun i => some (.int (i : Nat))) (fun i => xv[i]?)) := by
  refine ⟨fun i _ hIx q => ⟨xv, xv[i], q, by simp [hIx]⟩, fun _ q => ⟨xv, q, Nat.le_refl _⟩, fun i H v H' _ q y => ?_⟩
  obtain ⟨T0, x, h1, h2, h3, h4⟩ := y
  exact ⟨T0, .int (i : Nat), x, h1, h2, h3, rfl, h4 xv q⟩
theorem walk_zipT {K : PySem.W.Frag} {a b : Addr} {xv yv : List V} {n : Nat} (hn : n = min xv.length yv.length) : Walk (RZ.ItzT K a b) n (fun H => SqT K H a xv ∧ SqT K H b yv) (YPair (fun i => xv[i]?) (fun i => yv[i]?)) := by
  subst hn
  refine ⟨fun i _ hIx q => ?_, fun _ q => ⟨xv, yv, q.1, q.2, by omega⟩, fun i H v H' _ q y => ?_⟩
  · have h1 : i < xv.length := by omega
    have h2 : i < yv.length := by omega
    exact ⟨xv, yv, xv[i], yv[i], q.1, q.2, by simp [h1], by simp [h2]⟩
  · obtain ⟨T0, x, zq, h1, h2, h3, h4, h5⟩ := y
    exact ⟨T0, x, zq, h1, h2, h3, h4 xv q.1, h5 yv q.2⟩
end Gm
namespace Gm
open PySem PySem.Spec PyProof.Rows L2
section
variable {X : Cx} {C f : Addr} {fd : FuncData} {ps : List Str} {CX : CXT} {k : Nat} {sp : Sp} {E : XK}
/-- an instance as the library's words want it -/
theorem inst_of {pn : List (Addr × Obj)} {σ : L2.St} {H : Hp} {s : Shared} {a dx : Addr} {fs : List (Str × V)} (I : Inv X pn σ H s) (ha : H a = some (.ins C dx fs)) : ∃ od, PySem.W.InstAt s.heap a (PySem.W.instObj C dx) C (some od) := by
  obtain ⟨mAt, J, _⟩ := ins_get I.hok ha
  obtain ⟨od, J, _⟩ := J.look
  exact ⟨od, J⟩
/-- a op b, both instances of one own class that defines op -/
def rOwnBin (C : Addr) (sp : Sp) (E : XK) : R2 := fun x y H Q => ∃ a b dx dy fs gs, x = .ref a ∧ y = .ref b ∧ H a = some (.ins C dx fs) ∧ H b = some (.ins C dy gs) ∧ sp [x, y] H Q E
theorem op_ownBin {op : Operator} (hc : PySem.W.selfFirst X.K C = true) (hs : PySem.W.findIn X.K (.ref C) (PySem.dunder op.info.2) = some (some (.ref f))) (hf : PySem.W.isFn X.K (.ref f) = true)
    (F : FnOk X.prog X.w X.K X.mg X.base CX k f fd ps sp) (hr : Room k X.A) (hb : Binds X.K fd ps []) (hx : Passes CX X E) : OpR X (binaryOp op) (rOwnBin C sp E) := by
  intro pn s σ H x y v u Q I rx ry h
  obtain ⟨a, b, dx, dy, fs, gs, rfl, rfl, ha, hb', q⟩ := h
  cases rx
  cases ry
  obtain ⟨od, J⟩ := inst_of I ha
  obtain ⟨od', J'⟩ := inst_of I hb'
  obtain ⟨m, hF⟩ := I.fr
  refine PySem.W.binop_K hF I.ok.mod.kin J J'.type hc hs hf ?_
  refine wpAny_mono (run_fn (us := [.ref a, .ref b]) (vs := [.ref a, .ref b]) F hr hb .nil hx I (.cons rfl (.cons rfl .nil)) q) (fun w s' z => ?_) fun _ _ x => x
  obtain ⟨zR, HR, IR, relZ, postZ⟩ := z
  exact SlX.cmpback relZ ⟨zR, HR, IR, relZ, postZ⟩
/-- a op b compared by an own def -/
def rOwnCmp (K : PySem.W.Frag) (C : Addr) (sp : Sp) (E : XK) : R2 := fun x y H Q => ∃ a b dx dy fs gs, x = .ref a ∧ y = .ref b ∧ H a = some (.ins C dx fs) ∧ H b = some (.ins C dy gs) ∧ sp [x, y] H Q E
theorem op_ownCmp {op : CmpOp} (hop : ∀ a b, compareOp op a b = richCompare op a b) (hs : PySem.W.findIn X.K (.ref C) (cmpInfo op).2.1 = some (some (.ref f))) (hf : PySem.W.isFn X.K (.ref f) = true)
    (F : FnOk X.prog X.w X.K X.mg X.base CX k f fd ps sp) (hr : Room k X.A) (hb : Binds X.K fd ps []) (hx : Passes CX X E) : OpR X (compareOp op) (rOwnCmp X.K C sp E) := by
  intro pn s σ H x y v u Q I rx ry h
  obtain ⟨a, b, dx, dy, fs, gs, rfl, rfl, ha, hb', q⟩ := h
  cases rx
  cases ry
  obtain ⟨od, J⟩ := inst_of I ha
  obtain ⟨od', J'⟩ := inst_of I hb'
  obtain ⟨m, hF⟩ := I.fr
  rw [hop]
  refine PySem.W.cmp_K (op := op) (tb := .ref C) hr.units0 hF I.ok.mod.kin J J'.type (by simp [PySem.W.notFirst]) hs hf ?_
  refine wpAny_mono (run_fn (us := [.ref a, .ref b]) (vs := [.ref a, .ref b]) F hr hb .nil hx I (.cons rfl (.cons rfl .nil)) q) (fun w s' z => ?_) fun _ _ x => x
  obtain ⟨zR, HR, IR, relZ, postZ⟩ := z
  exact SlX.cmpback relZ ⟨zR, HR, IR, relZ, postZ⟩
/-- -a of an own class -/
def rOwnUn (C : Addr) (sp : Sp) (E : XK) : V → Hp → VK → Prop := fun x H Q => ∃ a dx fs, x = .ref a ∧ H a = some (.ins C dx fs) ∧ sp [x] H Q E
theorem un_ownNeg (hs : PySem.W.findIn X.K (.ref C) "__neg__" = some (some (.ref f))) (hf : PySem.W.isFn X.K (.ref f) = true)
    (F : FnOk X.prog X.w X.K X.mg X.base CX k f fd ps sp) (hr : Room k X.A) (hb : Binds X.K fd ps []) (hx : Passes CX X E) : UnR X (unaryOp .USub) (rOwnUn C sp E) := by
  intro pn s σ H x v Q I rx h
  obtain ⟨a, dx, fs, rfl, ha, q⟩ := h
  cases rx
  obtain ⟨od, J⟩ := inst_of I ha
  obtain ⟨m, hF⟩ := I.fr
  exact PySem.W.ksp_neg hF I.ok.mod.kin J hs hf (run_fn (us := [.ref a]) (vs := [.ref a]) F hr hb .nil hx I (.cons rfl .nil) q)
/-- len(a) of an own class -/
def rOwnLen (C : Addr) (sp : Sp) (E : XK) : List V → Hp → VK → Prop := fun xs H Q => ∃ a dx fs, xs = [.ref a] ∧ H a = some (.ins C dx fs) ∧ sp [.ref a] H (fun v HR => ∃ n : Nat, v = .int n ∧ n < 2 ^ 62 ∧ Q (.int n) HR) E
theorem call_ownLen (hs : PySem.W.findIn X.K (.ref C) "__len__" = some (some (.ref f))) (hf : PySem.W.isFn X.K (.ref f) = true)
    (F : FnOk X.prog X.w X.K X.mg X.base CX k f fd ps sp) (hr : Room (k + 1) X.A) (hb : Binds X.K fd ps []) (hx : ∀ (H : Hp) (s : Shared) (e : Value) (s' : Shared), CX X.stack H s E e s' → False) : CallR X (.builtin "len") (rOwnLen C sp E) := by
  intro pn s σ H vs argv Q I r h
  obtain ⟨a, dx, fs, rfl, ha, q⟩ := h
  cases r with
  | cons r rRest =>
    cases rRest
    cases r
    obtain ⟨od, J⟩ := inst_of I ha
    obtain ⟨m, hF⟩ := I.fr
    refine PySem.W.len_K hF I.ok.mod.kin J hs hf ?_
    have hl := F.len _ _ _ _ q
    have relV : Vals [V.ref a] [Value.ref a] := .cons rfl .nil
    refine wpAny_call (codeAny_mono (F.run X.A.in1 X.stack s H ⟨[.ref a], []⟩ [.ref a] [.ref a] _ E hr.in1 I.env0.in1 (by
      have := hb s [.ref a] I.kIn (by simpa using hl)
      simpa using this) relV q) fun r s' hq => ?_)
    cases r with
    | error e => exact (hx _ _ _ _ hq).elim
    | ok fl =>
      cases fl with
      | ret w =>
        obtain ⟨z, HR, IR, relZ, n, ez, hn, ex⟩ := I.after hq
        subst ez
        obtain ⟨t, rfl⟩ := relZ
        exact ⟨⟨by omega, by omega⟩, .int n, HR, IR.tok _, ⟨_, rfl⟩, ex⟩
      | next => exact False.elim hq
      | brk => exact False.elim hq
      | cont => exact False.elim hq
end
/-! ### a method that may raise, what is raised wished for at the caller's slots -/
section
variable {X : Cx} {C f : Addr} {fd : FuncData} {ps : List Str} {CX : CXT} {k : Nat} {sp : Sp} {E : L2.St → XK} {o e : Expr} {es : List Expr} {m : Str} {ta : TE} {t : TA} {pos apos : Pos}
def tMethS (C : Addr) (m : Str) (sp : Sp) (E : L2.St → XK) (ta : TE) (t : TA) : TE := fun σ H Q => ta σ H fun x H1 => ∃ a dx fs, x = .ref a ∧ H1 a = some (.ins C dx fs) ∧ fs.lookup m = none ∧ t σ H1 fun vs H2 => sp (x :: vs) H2 Q (E σ)
theorem pe_methS {pl : Sem Bool} (he : PE X o ta) (c : Cls X.K C) (hm : Meth X.K C m f) (F : FnOk X.prog X.w X.K X.mg X.base CX k f fd ps sp) (hr : Room k X.A) (hb : Binds X.K fd ps []) (hx : ∀ σ, PassesAt CX X σ (E σ)) (ha : PA X (e :: es) t)
    (hStar : starEach (e :: es) X.env = (false, eval e X.env) :: starEach es X.env := by rfl) (hPlain : (backTo pos (starEach es X.env)).any (·.1) = false := by rfl)
    (hEval : eval (.Call (.Attribute o m apos) (e :: es) [] pos) X.env = (do
      let ov ← eval o X.env
      standAt apos.atName
      let (f, first) ← holding [ov] (getMethod ov m pl)
      callWith pos f first (backTo pos (starEach (e :: es) X.env)) (backToKw pos (keywordEach [] X.env))) := by rfl) :
    PE X (.Call (.Attribute o m apos) (e :: es) [] pos) (tMethS C m sp E ta t) := by
  refine ⟨fun pn s σ H Q I h => ?_⟩
  refine PySem.W.methodCall_KW (pl := pl) (thn (he.run pn s σ H _ I h) fun u s1 ⟨x, H1, J1, rx, a, dx, fs, ex, ea, l, q⟩ => ?_) hEval
  subst ex
  obtain rfl : u = Value.ref a := rx
  refine getmeth_ok J1 ea c hm l ?_
  refine PySem.W.callWith_K (first := [.ref a]) (h₀ := X.base) I.ok.mod.kin hm.kp (thn (ha.run pos pn s1 σ H1 _ J1 q) fun argv s2 ⟨vs, H2, J2, r, q2⟩ => ⟨J2.kIn, ?_⟩) hStar hPlain
  exact run_fnS (us := .ref a :: argv) (vs := .ref a :: vs) F hr hb (hx σ) J2 (.cons rfl r) q2
theorem pe_methS0 {pl : Sem Bool} (he : PE X o ta) (c : Cls X.K C) (hm : Meth X.K C m f) (F : FnOk X.prog X.w X.K X.mg X.base CX k f fd ps sp) (hr : Room k X.A) (hb : Binds X.K fd ps []) (hx : ∀ σ, PassesAt CX X σ (E σ))
    (hEval : eval (.Call (.Attribute o m apos) [] [] pos) X.env = (do
      let ov ← eval o X.env
      standAt apos.atName
      let (f, first) ← holding [ov] (getMethod ov m pl)
      callWith pos f first (backTo pos (starEach [] X.env)) (backToKw pos (keywordEach [] X.env))) := by rfl) :
    PE X (.Call (.Attribute o m apos) [] [] pos) (tMethS C m sp E ta tNil) := by
  refine ⟨fun pn s σ H Q I h => ?_⟩
  refine PySem.W.methodCall_KW (pl := pl) (thn (he.run pn s σ H _ I h) fun u s1 ⟨x, H1, J1, rx, a, dx, fs, ex, ea, l, q⟩ => ?_) hEval
  subst ex
  obtain rfl : u = Value.ref a := rx
  refine getmeth_ok J1 ea c hm l ?_
  exact PySem.W.callWith_K0 (first := [.ref a]) J1.kIn hm.kp (run_fnS (us := [.ref a]) (vs := [.ref a]) F hr hb (hx σ) J1 (.cons rfl .nil) q)
end
end Gm
/-! Data in the heap: rows of ints, rows of rows, grids; comprehensions over a walk, their new list told at once. -/
namespace Gm
open PySem PySem.Spec PyProof.Rows L2
abbrev Frag := PySem.W.Frag
/-! ### heaps -/
theorem same_upd {H : Hp} {p : Addr} {o : HO} (h : H p = none) : Same H (upd H p o) := fun b x e => by
  rw [upd_ne (ne_of_none e h)]
  exact e
theorem Same.seqT {K : Frag} {H H' : Hp} {a : Addr} {xs : List V} (e : Same H H') (h : SqT K H a xs) : SqT K H' a xs := by
  rcases h with (h | ⟨o, h⟩) | h
  · exact .inl (.inl (e _ _ h))
  · exact .inl (.inr ⟨o, e _ _ h⟩)
  · exact .inr h
/-- all but D is as it was -/
def Off (D : Addr) (H H' : Hp) : Prop := ∀ b o, b ≠ D → H b = some o → H' b = some o
theorem Same.off {D : Addr} {H H' : Hp} (e : Same H H') : Off D H H' := fun b o _ h => e b o h
theorem Off.upd {D : Addr} {H : Hp} {o : HO} : Off D H (upd H D o) := fun b u n e => by rw [upd_ne n]; exact e
theorem Off.trans {D : Addr} {H H1 H2 : Hp} (a : Off D H H1) (b : Off D H1 H2) : Off D H H2 := fun c o n h => b c o n (a c o n h)
theorem Off.same {D : Addr} {H H1 H2 : Hp} (hD : H D = none) (a : Same H H1) (b : Off D H1 H2) : Same H H2 := fun c o h => b c o (ne_of_none h hD) (a c o h)
/-- a tuple stands through what happens at a list -/
theorem sqT_off {K : Frag} {H H' : Hp} {a D : Addr} {acc xs : List V} (hD : H D = some (.lst acc)) (e : Off D H H') (h : SqT K H a xs) : SqT K H' a xs := by
  rcases h with (h | ⟨o, h⟩) | h
  · exact .inl (.inl (e _ _ (ne_of h hD (by intro z; cases z)) h))
  · exact .inl (.inr ⟨o, e _ _ (ne_of h hD (by intro z; cases z)) h⟩)
  · exact .inr h
/-! ### a list or tuple -/
def Seq (K : Frag) (H : Hp) (a : Addr) (xs : List V) : Prop := SqL K H a xs ∨ SqT K H a xs
theorem Seq.same {K : Frag} {H H' : Hp} {a : Addr} {xs : List V} (e : Same H H') (h : Seq K H a xs) : Seq K H' a xs := h.elim (fun h => .inl (Same.seq e h)) fun h => .inr (Same.seqT e h)
/-! ### rows of ints, rows of rows -/
/-- a tuple of ints -/
def TRow (K : Frag) (H : Hp) (v : V) (ns : List Int) : Prop := ∃ a, v = .ref a ∧ SqT K H a (ns.map V.int)
/-- a list or tuple of ints -/
def IRow (K : Frag) (H : Hp) (v : V) (ns : List Int) : Prop := ∃ a, v = .ref a ∧ Seq K H a (ns.map V.int)
/-- a tuple of tuples of ints -/
def TRows (K : Frag) (H : Hp) (v : V) (m : List (List Int)) : Prop := ∃ a vs, v = .ref a ∧ SqT K H a vs ∧ Paired (TRow K H) vs m
/-- lists or tuples of such -/
def IRows (K : Frag) (H : Hp) (v : V) (m : List (List Int)) : Prop := ∃ a vs, v = .ref a ∧ Seq K H a vs ∧ Paired (IRow K H) vs m
section
variable {K : Frag} {H H' : Hp} {v : V} {ns : List Int} {m : List (List Int)} {D : Addr} {acc : List V}
theorem TRow.same (e : Same H H') (h : TRow K H v ns) : TRow K H' v ns := let ⟨a, x, s⟩ := h; ⟨a, x, Same.seqT e s⟩
theorem TRow.off (hD : H D = some (.lst acc)) (e : Off D H H') (h : TRow K H v ns) : TRow K H' v ns := let ⟨a, x, s⟩ := h; ⟨a, x, sqT_off hD e s⟩
theorem IRow.same (e : Same H H') (h : IRow K H v ns) : IRow K H' v ns := let ⟨a, x, s⟩ := h; ⟨a, x, s.same e⟩
theorem TRow.row (h : TRow K H v ns) : IRow K H v ns := let ⟨a, x, s⟩ := h; ⟨a, x, .inr s⟩
theorem TRows.same (e : Same H H') (h : TRows K H v m) : TRows K H' v m := let ⟨a, vs, x, s, p⟩ := h; ⟨a, vs, x, Same.seqT e s, L2.Paired.mapP p fun _ _ => TRow.same e⟩
theorem TRows.off (hD : H D = some (.lst acc)) (e : Off D H H') (h : TRows K H v m) : TRows K H' v m := let ⟨a, vs, x, s, p⟩ := h; ⟨a, vs, x, sqT_off hD e s, L2.Paired.mapP p fun _ _ => TRow.off hD e⟩
theorem IRows.same (e : Same H H') (h : IRows K H v m) : IRows K H' v m := let ⟨a, vs, x, s, p⟩ := h; ⟨a, vs, x, s.same e, L2.Paired.mapP p fun _ _ => IRow.same e⟩
theorem TRows.rows (h : TRows K H v m) : IRows K H v m := let ⟨a, vs, x, s, p⟩ := h; ⟨a, vs, x, .inr s, L2.Paired.mapP p fun _ _ => TRow.row⟩
end
theorem Paired.getL {α β : Type} {F : α → β → Prop} : ∀ {l₁ : List α} {l₂ : List β} {i : Nat} {b : β}, Paired F l₁ l₂ → l₂[i]? = some b → ∃ a, l₁[i]? = some a ∧ F a b
  | _, _, _, _, .nil, e => by simp at e
  | _, _, 0, _, .cons r _, e => by simp at e; subst e; exact ⟨_, rfl, r⟩
  | _, _, i + 1, b, .cons _ t, e => by
    obtain ⟨u, h1, h2⟩ := Paired.getL (i := i) (b := b) t (by simpa using e)
    exact ⟨u, by simpa using h1, h2⟩
theorem Paired.getR {α β : Type} {F : α → β → Prop} : ∀ {l₁ : List α} {l₂ : List β} {i : Nat} {a : α}, Paired F l₁ l₂ → l₁[i]? = some a → ∃ b, l₂[i]? = some b ∧ F a b
  | _, _, _, _, .nil, e => by simp at e
  | _, _, 0, _, .cons r _, e => by simp at e; subst e; exact ⟨_, rfl, r⟩
  | _, _, i + 1, a, .cons _ t, e => by
    obtain ⟨u, h1, h2⟩ := Paired.getR (i := i) (a := a) t (by simpa using e)
    exact ⟨u, by simpa using h1, h2⟩
theorem Paired.mapR {α β γ : Type} {F : α → β → Prop} {G : α → γ → Prop} (f : β → γ) (h : ∀ a b, F a b → G a (f b)) : ∀ {l₁ : List α} {l₂ : List β}, Paired F l₁ l₂ → Paired G l₁ (l₂.map f)
  | _, _, .nil => .nil
  | _, _, .cons r t => .cons (h _ _ r) (Paired.mapR f h t)
theorem Paired.swap {α β : Type} {F : α → β → Prop} : ∀ {l₁ : List α} {l₂ : List β}, Paired F l₁ l₂ → Paired (fun b a => F a b) l₂ l₁
  | _, _, .nil => .nil
  | _, _, .cons r t => .cons r (Paired.swap t)
/-- ints alone -/
theorem paired_ints : ∀ {vs : List V} {ns : List Int}, Paired (fun v n => v = V.int n) vs ns → vs = ns.map V.int
  | _, _, .nil => rfl
  | _, _, .cons r t => by rw [List.map_cons, ← r, ← paired_ints t]
theorem paired_bls : ∀ {vs : List V} {ns : List Bool}, Paired (fun v n => v = V.bl n) vs ns → vs = ns.map V.bl
  | _, _, .nil => rfl
  | _, _, .cons r t => by rw [List.map_cons, ← r, ← paired_bls t]
theorem ints_get {ns : List Int} {i : Nat} {v : V} (h : (ns.map V.int)[i]? = some v) : ∃ n, ns[i]? = some n ∧ v = .int n := by
  rw [List.getElem?_map] at h
  cases e : ns[i]? with
  | none => rw [e] at h; cases h
  | some n => rw [e] at h; exact ⟨n, rfl, (Option.some.inj h).symm⟩
theorem ints_at {ns : List Int} {i : Nat} {n : Int} (h : ns[i]? = some n) : (ns.map V.int)[i]? = some (.int n) := by
  rw [List.getElem?_map, h]
  rfl
/-! ### walks of a list or tuple: one reading for both -/
/-- R of every walk of the n items told by Y, while a's content stands -/
def Walked (n : Nat) (Y : Nat → Hp → V → Hp → Prop) (as : List Addr) (R : It → Hp → Prop) (H1 : Hp) : Prop := ∀ (J : It) (G : Hp → Prop), Walk J n G Y → (∀ H, (∀ a ∈ as, ∀ o, H1 a = some o → H a = some o) → G H) → R J H1
theorem sqL_at {K : Frag} {H H' : Hp} {a : Addr} {xs : List V} (h : SqL K H a xs) (e : ∀ o, H a = some o → H' a = some o) : SqL K H' a xs := by
  rcases h with (h | ⟨o, h⟩) | h
  · exact .inl (.inl (e _ h))
  · exact .inl (.inr ⟨o, e _ h⟩)
  · exact .inr h
theorem sqT_at {K : Frag} {H H' : Hp} {a : Addr} {xs : List V} (h : SqT K H a xs) (e : ∀ o, H a = some o → H' a = some o) : SqT K H' a xs := by
  rcases h with (h | ⟨o, h⟩) | h
  · exact .inl (.inl (e _ h))
  · exact .inl (.inr ⟨o, e _ h⟩)
  · exact .inr h
section
variable {X : Cx} {tg e e2 : Expr} {te : TE} {ta : TA} {p pos tpos : Pos} {elts : List Expr} {kk : Nat}
def iSeq (K : Frag) (tl : TE) : TI := fun σ H R => tl σ H fun x H1 => ∃ a xs, x = .ref a ∧ Seq K H1 a xs ∧ Walked xs.length (YAt xs) [a] R H1
theorem pi_seq (hl : PE X e te) : PI X tg e (iSeq X.K te) := by
  refine ⟨fun pn s σ H R I h => ?_⟩
  refine thn (hl.run pn s σ H _ I h) fun v s1 ⟨x, H1, J1, rel1, post1⟩ => ?_
  obtain ⟨a, xs, e, hq, q⟩ := post1
  subst e
  cases rel1
  have fin : ∀ b ∈ [s1.heap.objs.size], FpOk X pn H1 b := fun b hb => by
    have e : b = s1.heap.objs.size := by simpa using hb
    subst e
    exact J1.fpOk (Nat.le_refl _) (J1.hok.fresh (Nat.le_refl _))
  rcases hq with hq | hq
  · obtain ⟨vals, hvals, p, hLen⟩ := J1.list hq
    refine wpAny_pyIter_list p.isList ?_
    exact ⟨s1.heap.objs.size, [s1.heap.objs.size], _, _, H1, rfl, J1.kept (t' := s1.toks) fun b o e => Heap.get?_push_of_some _ e, turn_list a _, ⟨_, Heap.get?_push_size _ rfl, rfl, rfl⟩, fin, q _ _ walk_list fun H e => sqL_at hq (e a (by simp))⟩
  · obtain ⟨vals, hvals, p, hLen⟩ := J1.tuple hq
    refine wpAny_pyIter_tuple (show s1.heap.IsTuple a vals.toArray from p) ?_
    exact ⟨s1.heap.objs.size, [s1.heap.objs.size], _, _, H1, rfl, J1.kept (t' := s1.toks) fun b o e => Heap.get?_push_of_some _ e, turn_tuple a _, ⟨_, Heap.get?_push_size _ rfl, rfl, rfl⟩, fin, q _ _ walk_tup fun H e => sqT_at hq (e a (by simp))⟩
def iEnumS (K : Frag) (ta : TA) : TI := fun σ H R => ta σ H fun vs H1 => ∃ a xs, vs = [.ref a] ∧ Seq K H1 a xs ∧ Walked xs.length (YPair (fun i => some (.int (i : Nat))) (fun i => xs[i]?)) [a] R H1
theorem pi_enumS (hg : Gl X "enumerate") (hm : X.mg "enumerate" = none) (ha : PA X [e] ta) (hs : starEach [e] X.env = [(false, eval e X.env)] := by rfl) :
    PI X (.Tuple elts kk tpos) (.Call (.Name "enumerate" p) [e] [] pos) (iEnumS X.K ta) := by
  refine ⟨fun pn s σ H R I h => ?_⟩
  refine Call_ (ld_blt I hg hm boot_enumerate (PyProof.Rows.callWith_type1 (thn (ha.run pos pn s σ H _ I h) fun us s1 ⟨vs, H1, J1, rel1, post1⟩ => ?_) hs rfl))
  obtain ⟨a, xs, ex, hq, q⟩ := post1
  subst ex
  cases rel1 with
  | cons r rr =>
    cases rr
    cases r
    have fin : ∀ b ∈ [s1.heap.objs.size + 1, s1.heap.objs.size], s1.heap.objs.size ≤ b := fun b hb => by
      have ee : b = s1.heap.objs.size + 1 ∨ b = s1.heap.objs.size := by simpa using hb
      rcases ee with z | z
      · rw [z]; exact Nat.le_add_right _ _
      · rw [z]; exact Nat.le_refl _
    rcases hq with hq | hq
    · obtain ⟨vals, hvals, p', hLen⟩ := J1.list hq
      refine call_enumerate_list p'.isList fun h' he hit hSz hk => wpAny_pyIter_enum he ?_
      have J2 : Inv X pn σ H1 { s1 with heap := h' } := J1.kept (t' := s1.toks) hk
      exact ⟨s1.heap.objs.size + 1, [s1.heap.objs.size + 1, s1.heap.objs.size], _, _, H1, rfl, J2, turn_enum a (s1.heap.objs.size + 1) s1.heap.objs.size, ⟨⟨.none, he⟩, hit, Nat.succ_ne_self _⟩, fun b hb => J1.fpOk (fin b hb) (J1.hok.fresh (fin b hb)), q _ _ walk_enum fun H e => sqL_at hq (e a (by simp))⟩
    · obtain ⟨vals, hvals, p', hLen⟩ := J1.tuple hq
      have hal : a ≠ s1.heap.objs.size := by
        obtain ⟨o, e, _⟩ := (show s1.heap.IsTuple a vals.toArray from p')
        exact Nat.ne_of_lt (Heap.lt_size e)
      refine call_enumerate_tuple (show s1.heap.IsTuple a vals.toArray from p') fun h' he hit hSz hk => wpAny_pyIter_enum he ?_
      have J2 : Inv X pn σ H1 { s1 with heap := h' } := J1.kept (t' := s1.toks) hk
      exact ⟨s1.heap.objs.size + 1, [s1.heap.objs.size + 1, s1.heap.objs.size], _, _, H1, rfl, J2, turn_enumT a (s1.heap.objs.size + 1) s1.heap.objs.size hal, ⟨⟨.none, he⟩, hit, Nat.succ_ne_self _⟩, fun b hb => J1.fpOk (fin b hb) (J1.hok.fresh (fin b hb)), q _ _ walk_enumT fun H e => sqT_at hq (e a (by simp))⟩
end
/-! ### comprehensions -/
/-- [e for x in .. if p]: the new list at D holds, for the turns with p, values in the relation Rel -/
theorem lc_gen {J : It} {n : Nat} {G : Hp → Prop} {Y : Nat → Hp → V → Hp → Prop} (w : Walk J n G Y) {g : TG} {tt : TT} {te : TE} {vs : List Nat} {σ : L2.St} {H1 : Hp} {D : Addr} {Qd : Hp → Prop}
    (hD : H1 D = none) (hn : n ≤ 1000) (hG : ∀ H, Same H1 H → G H) (p : Nat → Bool) (Rel : Nat → V → Hp → Prop)
    (mono : ∀ i v H H' acc, H D = some (.lst acc) → Off D H H' → Rel i v H → Rel i v H')
    (step : ∀ (i : Nat) (x : V) (H H' : Hp) (acc : List V) (Ko : VK) (Kn : Hp → Prop), i < n → Same H1 H → H D = some (.lst acc) → Y i H x H' → (p i = true → ∀ y H4, Same H H4 → Rel i y H4 → Ko y H4) → (p i = false → ∀ H3, Same H H3 → Kn H3) →
      g x (wipe σ vs) H' fun σ2 H2 => wipe σ2 vs = wipe σ vs ∧ tt σ2 H2 fun b H3 => if b = true then te σ2 H3 Ko else Kn H3)
    (done : ∀ H l, Same H1 H → H D = some (.lst l) → Paired (fun i v => Rel i v H) ((List.range n).filter p) l → Qd H) :
    ∃ W : Nat → Nat → Hp → Prop, (∃ m, W 0 m (upd H1 D (.lst []))) ∧ ∀ i m H, W i m H →
      (J.stop i H ∧ Qd H) ∨ (J.go i H ∧ ∃ Nx : Hp → Prop, (∀ H', Nx H' → ∃ m', m' < m ∧ W (i + 1) m' H') ∧ ∀ x H', J.yld i H x H' → g x (wipe σ vs) H' fun σ2 H2 => wipe σ2 vs = wipe σ vs ∧ tt σ2 H2 fun b H3 =>
        if b = true then te σ2 H3 fun y H4 => ∃ acc, H4 D = some (.lst acc) ∧ acc.length < sizeLine ∧ Nx (upd H4 D (.lst (acc ++ [y]))) else Nx H3) := by
  refine lc_it w (Pv := fun i H => Same H1 H ∧ ∃ l, H D = some (.lst l) ∧ Paired (fun i v => Rel i v H) ((List.range i).filter p) l) ?_ (fun i H _ h => hG H h.1) ?_ (fun H h => let ⟨s, l, e, q⟩ := h; done H l s e q)
  · exact ⟨same_upd hD, [], upd_same, .nil⟩
  · rintro i x H H' hi ⟨s, l, e, q⟩ y
    have hl : l.length ≤ i := by
      have := q.length
      have h2 : ((List.range i).filter p).length ≤ (List.range i).length := List.length_filter_le _ _
      rw [List.length_range] at h2
      omega
    refine step i x H H' l _ _ hi s e y (fun hp y H4 s4 r => ?_) fun hp H3 s3 => ?_
    · refine ⟨l, s4 _ _ e, small1000 (by omega), fun c o h => ?_, l ++ [y], upd_same, ?_⟩
      · exact Off.upd c o (ne_of_none h hD) (s4 _ _ (s _ _ h))
      · rw [List.range_succ, List.filter_append, List.filter_cons, List.filter_nil, if_pos hp]
        refine Paired.snoc (L2.Paired.mapP q fun j v r => mono j v H _ l e ?_ r) (mono i y H4 _ l (s4 _ _ e) Off.upd r)
        exact Off.trans (Same.off s4) Off.upd
    · refine ⟨fun c o h => s3 _ _ (s _ _ h), l, s3 _ _ e, ?_⟩
      rw [List.range_succ, List.filter_append, List.filter_cons, List.filter_nil, if_neg (by rw [hp]; exact Bool.false_ne_true), List.append_nil]
      exact L2.Paired.mapP q fun j v r => mono j v H _ l e (Same.off s3) r
/-- without a test -/
theorem lc_all {J : It} {n : Nat} {G : Hp → Prop} {Y : Nat → Hp → V → Hp → Prop} (w : Walk J n G Y) {g : TG} {te : TE} {vs : List Nat} {σ : L2.St} {H1 : Hp} {D : Addr} {Qd : Hp → Prop}
    (hD : H1 D = none) (hn : n ≤ 1000) (hG : ∀ H, Same H1 H → G H) (Rel : Nat → V → Hp → Prop)
    (mono : ∀ i v H H' acc, H D = some (.lst acc) → Off D H H' → Rel i v H → Rel i v H')
    (step : ∀ (i : Nat) (x : V) (H H' : Hp) (acc : List V) (Ko : VK), i < n → Same H1 H → H D = some (.lst acc) → Y i H x H' → (∀ y H4, Same H H4 → Rel i y H4 → Ko y H4) →
      g x (wipe σ vs) H' fun σ2 H2 => wipe σ2 vs = wipe σ vs ∧ te σ2 H2 Ko)
    (gm : ∀ x σ1 H (Q Q' : L2.St → Hp → Prop), (∀ σ2 H2, Q σ2 H2 → Q' σ2 H2) → g x σ1 H Q → g x σ1 H Q')
    (done : ∀ H l, Same H1 H → H D = some (.lst l) → Paired (fun i v => Rel i v H) (List.range n) l → Qd H) :
    ∃ W : Nat → Nat → Hp → Prop, (∃ m, W 0 m (upd H1 D (.lst []))) ∧ ∀ i m H, W i m H →
      (J.stop i H ∧ Qd H) ∨ (J.go i H ∧ ∃ Nx : Hp → Prop, (∀ H', Nx H' → ∃ m', m' < m ∧ W (i + 1) m' H') ∧ ∀ x H', J.yld i H x H' → g x (wipe σ vs) H' fun σ2 H2 => wipe σ2 vs = wipe σ vs ∧ tYes σ2 H2 fun b H3 =>
        if b = true then te σ2 H3 fun y H4 => ∃ acc, H4 D = some (.lst acc) ∧ acc.length < sizeLine ∧ Nx (upd H4 D (.lst (acc ++ [y]))) else Nx H3) := by
  refine lc_gen w hD hn hG (fun _ => true) Rel mono (fun i x H H' acc Ko Kn hi s e y k _ => ?_) fun H l s e q => done H l s e (by rw [List.filter_eq_self.mpr (fun _ _ => rfl)] at q; exact q)
  refine gm _ _ _ _ _ (fun σ2 H2 q => ⟨q.1, ?_⟩) (step i x H H' acc Ko hi s e y (k rfl))
  exact (show if true = true then te σ2 H2 Ko else Kn H2 from iteT q.2)
theorem gm_name {j : Nat} : ∀ (x : V) (σ1 : L2.St) (H : Hp) (Q Q' : L2.St → Hp → Prop), (∀ σ2 H2, Q σ2 H2 → Q' σ2 H2) → gName j x σ1 H Q → gName j x σ1 H Q' := fun _ _ _ _ _ h q => h _ _ q
theorem gm_pair {K : Frag} {i j : Nat} : ∀ (x : V) (σ1 : L2.St) (H : Hp) (Q Q' : L2.St → Hp → Prop), (∀ σ2 H2, Q σ2 H2 → Q' σ2 H2) → gTup K 2 (gCons (gName i) (gCons (gName j) gNil)) x σ1 H Q → gTup K 2 (gCons (gName i) (gCons (gName j) gNil)) x σ1 H Q' := by
  rintro x σ1 H Q Q' h ⟨a, xs, e, s, l, v, r, e1, v', r', e2, e3, q⟩
  exact ⟨a, xs, e, s, l, v, r, e1, v', r', e2, e3, h _ _ q⟩
/-- a pair unpacked into two slots -/
theorem g_pair {K : Frag} {i j : Nat} {T : Addr} {x y : V} {σ : L2.St} {H : Hp} {Q : L2.St → Hp → Prop} (hn : H T = none) (q : Q ((σ.set i (some x)).set j (some y)) (upd H T (.tup [x, y]))) : gTup K 2 (gCons (gName i) (gCons (gName j) gNil)) (.ref T) σ (upd H T (.tup [x, y])) Q :=
  ⟨T, [x, y], rfl, .inl (.inl upd_same), rfl, x, [y], rfl, y, [], rfl, rfl, q⟩
/-! ### list or tuple: slices -/
section
variable {X : Cx}
def rSlS (K : Frag) : V → Option Int → Option Int → Hp → VK → Prop := fun x lo hi H Q => rSlL K x lo hi H Q ∨ rSlT K x lo hi H Q
theorem sl_seq : SlR X (rSlS X.K) := sl_list.or sl_tup
end
end Gm
namespace Gm
open PySem PySem.Spec PyProof.Rows L2
theorem rIx_seq {K : Frag} {H : Hp} {a : Addr} {xs : List V} {i : Int} {v : V} {Q : VK} (hs : Seq K H a xs) (e : atI xs i = some v) (q : Q v H) : rIx K (.ref a) (.int i) H Q :=
  hs.elim (fun h => .inl ⟨a, xs, i, v, rfl, rfl, h, e, q⟩) fun h => .inr (.inl ⟨a, xs, i, v, rfl, rfl, h, e, q⟩)
end Gm
namespace Gm
open PySem PySem.Spec PyProof.Rows L2
/-! ### the layer's rules with the written part named (for a comprehension's block) -/
section
variable {X : Cx}
theorem ixS (K : Frag) (hK : X.K = K) : IxR X (rIx K) := by subst hK; exact ix_seq
theorem ixT (K : Frag) (hK : X.K = K) : IxR X (rIxT K) := by subst hK; exact ix_tup
theorem ixL (K : Frag) (hK : X.K = K) : IxR X (rIxL K) := by subst hK; exact ix_list
def rLen (K : Frag) : List V → Hp → VK → Prop := fun xs H Q => ∃ p ys, xs = [.ref p] ∧ Seq K H p ys ∧ Q (.int ys.length) H
theorem lenS (K : Frag) (hK : X.K = K) : CallR X (.builtin "len") (rLen K) := by subst hK; exact call_len_seq
theorem sumK (K : Frag) (hK : X.K = K) (hc : X.calm = true) : CallR X (.builtin "sum") (rSum K) := by subst hK; exact cr_sum hc
theorem allK (K : Frag) (hK : X.K = K) (hc : X.calm = true) : CallR X (.builtin "all") (rAll K) := by subst hK; exact cr_all hc
theorem isiK (K : Frag) (hK : X.K = K) : CallR X (.builtin "isinstance") (rIsi K) := by subst hK; exact call_isi
theorem isiTK (K : Frag) (hK : X.K = K) : CallR X (.builtin "isinstance") (rIsiT K) := by subst hK; exact call_isiT
def rTupleOf (K : Frag) : List V → Hp → VK → Prop := fun xs H Q => ∃ p ys, xs = [.ref p] ∧ ((SqL K H p ys ∧ ∀ l, H l = none → Q (.ref l) (upd H l (.tup ys))) ∨ (SqT K H p ys ∧ Q (.ref p) H))
theorem tupK (K : Frag) (hK : X.K = K) : CallR X (.type "tuple") (rTupleOf K) := by subst hK; exact call_tuple_of
def rListOf (K : Frag) : List V → Hp → VK → Prop := fun xs H Q => ∃ p ys, xs = [.ref p] ∧ Seq K H p ys ∧ ∀ l, H l = none → Q (.ref l) (upd H l (.lst ys))
theorem listK (K : Frag) (hK : X.K = K) : CallR X (.type "list") (rListOf K) := by subst hK; exact call_list_of
theorem catK (K : Frag) (hK : X.K = K) : OpR X (binaryOp .Add) (rCatA K) := by subst hK; exact op_catA
theorem slTK (K : Frag) (hK : X.K = K) : SlR X (rSlA K) := by subst hK; exact sl_tupA
theorem slLK (K : Frag) (hK : X.K = K) : SlR X (rSlL K) := by subst hK; exact sl_list
theorem slSK (K : Frag) (hK : X.K = K) : SlR X (rSlS K) := by subst hK; exact sl_seq
theorem eqDK (K : Frag) (hK : X.K = K) {k : Nat} (hr : Room k X.A) : OpR X (compareOp .Eq) (rEqD K) := by subst hK; exact op_eqD hr.units
theorem neDK (K : Frag) (hK : X.K = K) {k : Nat} (hr : Room k X.A) : OpR X (compareOp .NotEq) (rNeD K) := by subst hK; exact op_neD hr.units
variable {e e2 tg : Expr} {te ta : TE} {f : Str} {p pos tpos : Pos} {elts : List Expr} {kk : Nat} {tas : TA}
theorem fldK (K : Frag) (hK : X.K = K) (he : PE X e ta) (hb : attributeBase e f X.env (eval e X.env) = eval e X.env) : PE X (.Attribute e f pos) (tFld K ta f) := by subst hK; exact pe_fld he hb
theorem piS (K : Frag) (hK : X.K = K) (he : PE X e te) : PI X tg e (iSeq K te) := by subst hK; exact pi_seq he
/-- a tuple alone -/
theorem piEnum (K : Frag) (hK : X.K = K) (hg : Gl X "enumerate") (hm : X.mg "enumerate" = none) (ha : PA X [e] tas) (hs : starEach [e] X.env = [(false, eval e X.env)] := by rfl) :
    PI X (.Tuple elts kk tpos) (.Call (.Name "enumerate" p) [e] [] pos) (iEnumS K tas) := by subst hK; exact pi_enumS hg hm ha hs
def iZipT (K : Frag) (ta : TA) : TI := fun σ H R => ta σ H fun vs H1 => ∃ a b xs ys, vs = [.ref a, .ref b] ∧ SqT K H1 a xs ∧ SqT K H1 b ys ∧ R (RZ.ItzT K a b) H1
theorem piZipT (K : Frag) (hK : X.K = K) (hg : Gl X "zip") (hm : X.mg "zip" = none) (ha : PA X [e, e2] tas)
    (mono : ∀ σ H (Q Q' : List V → Hp → Prop), (∀ vs H, Q vs H → Q' vs H) → tas σ H Q → tas σ H Q')
    (hs : starEach [e, e2] X.env = (false, eval e X.env) :: starEach [e2] X.env := by rfl) (hpl : (backTo pos (starEach [e2] X.env)).any (·.1) = false := by rfl) :
    PI X (.Tuple elts kk tpos) (.Call (.Name "zip" p) [e, e2] [] pos) (iZipT K tas) := by
  subst hK
  refine ⟨fun pn s σ H R I h => (RZ.pi_zipA hg hm ha hs hpl).run pn s σ H R I (mono σ H _ _ (fun vs H1 q => ?_) h)⟩
  obtain ⟨a, b, xs, ys, e, h1, h2, q⟩ := q
  exact ⟨a, b, xs, ys, e, .inr ⟨h1, h2, q⟩⟩
end
end Gm
namespace Gm
open PySem PySem.Spec PyProof.Rows L2
theorem paired_true : ∀ {is : List Nat} {l : List V}, Paired (fun (_ : Nat) v => v = V.bl true) is l → l = (List.replicate l.length true).map V.bl
  | _, _, .nil => rfl
  | _, _, .cons r t => by
    rw [List.length_cons, List.replicate_succ, List.map_cons, ← r, ← paired_true t]
theorem all_true (n : Nat) : (List.replicate n true).all id = true := by
  induction n with
  | zero => rfl
  | succ n ih => rw [List.replicate_succ, List.all_cons, ih] <;> rfl
/-- values in relation with the items of a list, by place -/
theorem paired_at {α : Type} {F : V → α → Prop} {m : List α} : ∀ {n : Nat} {l : List V}, n = m.length → Paired (fun (i : Nat) v => ∃ x, m[i]? = some x ∧ F v x) (List.range n) l → Paired F l m := by
  intro n l hn h
  subst hn
  have key : ∀ (is : List Nat) (l : List V) (xs : List α), Paired (fun (i : Nat) v => ∃ x, m[i]? = some x ∧ F v x) is l → is.map (fun i => m[i]?) = xs.map some → Paired F l xs := by
    intro is l xs h
    induction h generalizing xs with
    | nil =>
      intro e
      cases xs with
      | nil => exact .nil
      | cons a b => cases e
    | cons r t ih =>
      intro e
      cases xs with
      | nil => cases e
      | cons a b =>
        rw [List.map_cons, List.map_cons] at e
        obtain ⟨x, ex, fx⟩ := r
        have e1 := (List.cons.inj e).1
        have e2 := (List.cons.inj e).2
        rw [ex] at e1
        cases e1
        exact .cons fx (ih b e2)
  refine key _ l m h ?_
  apply List.ext_getElem?
  intro i
  rw [List.getElem?_map, List.getElem?_map]
  by_cases hi : i < m.length
  · rw [List.getElem?_range hi, List.getElem?_eq_getElem hi]
    exact congrArg some (List.getElem?_eq_getElem hi)
  · rw [List.getElem?_eq_none (by simpa using hi), List.getElem?_eq_none (by omega)]
    rfl
end Gm
namespace Gm
open PySem PySem.Spec PyProof.Rows L2
section
variable {K : Frag} {H : Hp} {a b : Addr} {xs ys : List V} {Q : VK}
theorem cut_take (xs : List V) (j : Nat) : cutV xs none (some (j : Int)) = xs.take j := by
  unfold cutV
  rw [HT.sIx_none, HT.sIx_nat, List.drop_zero, Nat.sub_zero]
  by_cases h : j ≤ xs.length
  · rw [Nat.min_eq_left h]
  · rw [Nat.min_eq_right (by omega), List.take_length, List.take_of_length_le (by omega)]
theorem cut_drop (xs : List V) (j : Nat) : cutV xs (some (j : Int)) none = xs.drop j := by
  unfold cutV
  rw [HT.sIx_none, HT.sIx_nat]
  by_cases h : j ≤ xs.length
  · rw [Nat.min_eq_left h, List.take_of_length_le (by rw [List.length_drop]; exact Nat.le_refl _)]
  · rw [Nat.min_eq_right (by omega), Nat.sub_self, List.take_zero, List.drop_of_length_le (by omega)]
theorem slA_take (h : SqT K H a xs) (j : Nat) (q : ∀ p H', Same H H' → SqT K H' p (xs.take j) → Q (.ref p) H') : rSlA K (.ref a) none (some (j : Int)) H Q := by
  refine ⟨a, xs, rfl, h, fun e => ?_, fun _ p np => ?_⟩
  · have e2 : min j xs.length = xs.length := by
      have := e.2
      rw [HT.sIx_nat] at this
      exact this
    refine q a H (Same.refl _) ?_
    rw [List.take_of_length_le (by omega)]
    exact h
  · exact q p _ (same_upd np) (.inl (.inl (by rw [upd_same, cut_take])))
theorem slA_drop (h : SqT K H a xs) (j : Nat) (q : ∀ p H', Same H H' → SqT K H' p (xs.drop j) → Q (.ref p) H') : rSlA K (.ref a) (some (j : Int)) none H Q := by
  refine ⟨a, xs, rfl, h, fun e => ?_, fun _ p np => ?_⟩
  · have e2 : min j xs.length = 0 := by
      have := e.1
      rw [HT.sIx_nat] at this
      exact this
    refine q a H (Same.refl _) ?_
    by_cases hj : j = 0
    · rw [hj]
      exact h
    · have : xs = [] := List.eq_nil_of_length_eq_zero (by omega)
      rw [this] at h ⊢
      simpa using h
  · exact q p _ (same_upd np) (.inl (.inl (by rw [upd_same, cut_drop])))
theorem catA (hx : SqT K H a xs) (hy : SqT K H b ys) (hl : xs.length + ys.length ≤ 1000) (q : ∀ p H', Same H H' → SqT K H' p (xs ++ ys) → Q (.ref p) H') : rCatA K (.ref a) (.ref b) H Q := by
  refine ⟨a, b, xs, ys, rfl, rfl, hx, hy, Nat.le_of_lt (small1000 hl), fun e => ?_, fun _ e => ?_, fun _ _ p np => ?_⟩
  · subst e
    exact q b H (Same.refl _) hy
  · subst e
    refine q a H (Same.refl _) ?_
    rw [List.append_nil]
    exact hx
  · exact q p _ (same_upd np) (.inl (.inl upd_same))
end
/-- lists of ints, apart from D: a list of such lists is a matrix -/
theorem lists_rows {K : Frag} {H : Hp} {D : Addr} {l : List V} {m : List (List Int)} {n : Nat} (hn : n = m.length) (e : H D = some (.lst l)) (h : Paired (fun (i : Nat) v => ∃ p, v = V.ref p ∧ p ≠ D ∧ H p = some (.lst ((m.getD i []).map V.int))) (List.range n) l) : IRows K H (.ref D) m := by
  refine ⟨D, l, rfl, .inl (.inl (.inl e)), paired_at (m := m) hn ?_⟩
  have key : ∀ (is : List Nat) (l : List V), (∀ i ∈ is, i < m.length) → Paired (fun (i : Nat) v => ∃ p, v = V.ref p ∧ p ≠ D ∧ H p = some (.lst ((m.getD i []).map V.int))) is l → Paired (fun (i : Nat) v => ∃ x, m[i]? = some x ∧ IRow K H v x) is l := by
    intro is l hi h
    induction h with
    | nil => exact .nil
    | cons r t ih =>
      obtain ⟨p, rfl, _, e⟩ := r
      have h1 := hi _ (List.mem_cons_self ..)
      refine .cons ⟨_, List.getElem?_eq_getElem h1, p, rfl, .inl (.inl (.inl ?_))⟩ (ih fun i h => hi i (List.mem_cons_of_mem _ h))
      rw [List.getD_eq_getElem?_getD, List.getElem?_eq_getElem h1] at e
      exact e
  exact key _ _ (fun i h => by rw [List.mem_range] at h; omega) h
theorem lists_mono {D : Addr} {f : Nat → List Int} (i : Nat) (v : V) (H H' : Hp) (acc : List V) (_ : H D = some (.lst acc)) (o : Off D H H') (h : ∃ p, v = V.ref p ∧ p ≠ D ∧ H p = some (.lst ((f i).map V.int))) : ∃ p, v = V.ref p ∧ p ≠ D ∧ H' p = some (.lst ((f i).map V.int)) :=
  let ⟨p, e, n, h⟩ := h
  ⟨p, e, n, o _ _ n h⟩
/-- ints by place -/
theorem ints_list {l : List V} {ns : List Int} {n : Nat} (hn : n = ns.length) (h : Paired (fun (i : Nat) v => ∃ x, ns[i]? = some x ∧ v = V.int x) (List.range n) l) : l = ns.map V.int := paired_ints (paired_at hn h)
end Gm
namespace Gm
open PySem PySem.Spec PyProof.Rows L2
theorem tyes_of {σ : L2.St} {H : Hp} {q : Hp → Prop} {r : Hp → Prop} (h : q H) : tYes σ H fun b H3 => if b = true then q H3 else r H3 := iteT (A := q H) (B := r H) h
/-- a comprehension whose turns may change other objects: A is kept, the values are told without the heap -/
theorem lc_val {J : It} {n : Nat} {G : Hp → Prop} {Y : Nat → Hp → V → Hp → Prop} (w : Walk J n G Y) {g : TG} {te : TE} {vs : List Nat} {σ : L2.St} {H1 : Hp} {D : Addr} {Qd : Hp → Prop}
    (hn : n ≤ 1000) (A : Hp → Prop) (A0 : A (upd H1 D (.lst []))) (hG : ∀ H, A H → G H) (Au : ∀ H acc acc', A H → H D = some (.lst acc) → A (upd H D (.lst acc'))) (Rel : Nat → V → Prop)
    (step : ∀ (i : Nat) (x : V) (H H' : Hp) (acc : List V) (Ko : VK), i < n → A H → H D = some (.lst acc) → Y i H x H' → (∀ y H4, A H4 → H4 D = some (.lst acc) → Rel i y → Ko y H4) →
      g x (wipe σ vs) H' fun σ2 H2 => wipe σ2 vs = wipe σ vs ∧ te σ2 H2 Ko)
    (gm : ∀ (x : V) (σ1 : L2.St) (H : Hp) (Q Q' : L2.St → Hp → Prop), (∀ σ2 H2, Q σ2 H2 → Q' σ2 H2) → g x σ1 H Q → g x σ1 H Q')
    (done : ∀ H l, A H → H D = some (.lst l) → Paired (fun i v => Rel i v) (List.range n) l → Qd H) :
    ∃ W : Nat → Nat → Hp → Prop, (∃ m, W 0 m (upd H1 D (.lst []))) ∧ ∀ i m H, W i m H →
      (J.stop i H ∧ Qd H) ∨ (J.go i H ∧ ∃ Nx : Hp → Prop, (∀ H', Nx H' → ∃ m', m' < m ∧ W (i + 1) m' H') ∧ ∀ x H', J.yld i H x H' → g x (wipe σ vs) H' fun σ2 H2 => wipe σ2 vs = wipe σ vs ∧ tYes σ2 H2 fun b H3 =>
        if b = true then te σ2 H3 fun y H4 => ∃ acc, H4 D = some (.lst acc) ∧ acc.length < sizeLine ∧ Nx (upd H4 D (.lst (acc ++ [y]))) else Nx H3) := by
  refine lc_it w (Pv := fun i H => A H ∧ ∃ l, H D = some (.lst l) ∧ Paired (fun i v => Rel i v) (List.range i) l) ?_ (fun i H _ h => hG H h.1) ?_ (fun H h => let ⟨s, l, e, q⟩ := h; done H l s e q)
  · exact ⟨A0, [], upd_same, .nil⟩
  · rintro i x H H' hi ⟨a, l, e, q⟩ y
    have hl : l.length = i := by
      have := q.length
      rw [List.length_range] at this
      omega
    refine gm _ _ _ _ _ (fun σ2 H2 q => ⟨q.1, tyes_of q.2⟩) (step i x H H' l _ hi a e y fun y H4 a4 e4 r => ?_)
    refine ⟨l, e4, small1000 (by omega), Au _ _ _ a4 e4, l ++ [y], upd_same, ?_⟩
    rw [List.range_succ]
    exact Paired.snoc q r
theorem ixN_nat {n k : Nat} (h : k < n) : ixN n (k : Int) = some k := by
  unfold ixN
  first
    | simp [h]
    | (split <;> simp_all <;> omega)
    | omega
end Gm
namespace Gm
open PySem PySem.Spec PyProof.Rows L2
theorem vals_small {is : List Nat} {l : List V} {M : Nat} (h : Paired (fun (_ : Nat) v => ∃ z : Int, v = V.int z ∧ z.natAbs ≤ M) is l) : ∃ zs : List Int, l = zs.map V.int ∧ zs.length = is.length ∧ ∀ z ∈ zs, z.natAbs ≤ M := by
  induction h with
  | nil => exact ⟨[], rfl, rfl, fun z hLen => by cases hLen⟩
  | cons r t ih =>
    obtain ⟨z, rfl, hLen⟩ := r
    obtain ⟨zs, rfl, hl, hb⟩ := ih
    exact ⟨z :: zs, rfl, by rw [List.length_cons, List.length_cons, hl], fun y hy => by
      rcases List.mem_cons.mp hy with rfl | hy
      · exact hLen
      · exact hb y hy⟩
theorem paired_set {α β : Type} {F : α → β → Prop} {x : α} {y : β} (r : F x y) : ∀ {xs : List α} {ys : List β} (i : Nat), Paired F xs ys → Paired F (xs.set i x) (ys.set i y)
  | _, _, _, .nil => .nil
  | _, _, 0, .cons _ t => .cons r t
  | _, _, i + 1, .cons q t => .cons q (paired_set r i t)
end Gm
namespace Gm
open PySem PySem.Spec PyProof.Rows L2
theorem piT {X : Cx} {e tg : Expr} {te : TE} (K : Frag) (hK : X.K = K) (he : PE X e te) : PI X tg e (iTup K te) := by subst hK; exact pi_tup he
theorem piL {X : Cx} {e tg : Expr} {te : TE} (K : Frag) (hK : X.K = K) (he : PE X e te) : PI X tg e (iList K te) := by subst hK; exact pi_list he
end Gm
namespace Gm
open PySem PySem.Spec PyProof.Rows L2
theorem slS_drop1 {K : Frag} {H : Hp} {a : Addr} {ws : List V} {Q : VK} (hs : Seq K H a ws) (h0 : 0 < ws.length) (q : ∀ p H', Same H H' → Seq K H' p (ws.drop 1) → Q (.ref p) H') : rSlS K (.ref a) (some 1) none H Q := by
  rcases hs with hs | hs
  · exact .inl ⟨a, ws, rfl, hs, fun p np => q p _ (same_upd np) (.inl (.inl (.inl (by rw [upd_same, show (1 : Int) = ((1 : Nat) : Int) from rfl, cut_drop]))))⟩
  · refine .inr ⟨a, ws, rfl, hs, fun e => ?_, fun p np => q p _ (same_upd np) (.inr (.inl (.inl (by rw [upd_same, show (1 : Int) = ((1 : Nat) : Int) from rfl, cut_drop]))))⟩
    have := e.1
    rw [show (1 : Int) = ((1 : Nat) : Int) from rfl, HT.sIx_nat] at this
    omega
end Gm
/-! The end of a law whose promise wants that nobody looks on (// of any size), with the script's bits. -/
namespace Gm
open PySem PySem.Spec PyProof.Rows L2
section
variable {P : Program} {w : World} {K : PySem.W.Frag} {h : Heap} {a : Addr} {o : Obj} {xs : List V}
/-- the heap in the proof's words: the script alone, if the module doesn't own it -/
def scr (K : PySem.W.Frag) (a : Addr) (o : Obj) (xs : List V) : Hp := fun b => if b = a ∧ K.lookup a = none then some (.frz o (.lst xs)) else none
theorem scr_some {b : Addr} {u : HO} (e : scr K a o xs b = some u) : b = a ∧ K.lookup a = none ∧ u = .frz o (.lst xs) := by
  unfold scr at e
  split at e
  · rename_i hh
    exact ⟨hh.1, hh.2, (Option.some.inj e).symm⟩
  · cases e
theorem scr_only : Only (scr K a o xs) := fun b => by
  cases e : scr K a o xs b with
  | none => exact .inl rfl
  | some u => exact .inr ⟨o, xs, by rw [(scr_some e).2.2]⟩
theorem scr_none {b : Addr} (n : b ≠ a) : scr K a o xs b = none := if_neg fun q => n q.1
variable (ha : h.get? a = some o)
include ha
theorem scr_other {b : Addr} {o' : Obj} (e : h.get? b = some o') (n : o'.cls ≠ o.cls ∨ ∃ es ep, o'.data = .dict es ep ∧ ∀ es ep, o.data ≠ .dict es ep) : scr K a o xs b = none := by
  refine scr_none fun z => ?_
  rw [z, ha] at e
  cases e
  rcases n with n | ⟨es, ep, e1, n⟩
  · exact n rfl
  · exact n es ep e1
theorem scr_ns (hd : ∀ es ep, o.data ≠ .dict es ep) {b : Addr} {m : Str → Option Value} (q : h.Ns b m) : (hidT h (scr K a o xs)).Ns b m := by
  obtain ⟨o', es, ep, e, d, r⟩ := q
  exact ⟨o', es, ep, hidT_get e (scr_other ha e (.inr ⟨es, ep, d, hd⟩)), d, r⟩
theorem scr_in (X : K.In h) : K.In (hidT h (scr K a o xs)) := fun b o' e => hidT_get (X b o' e) (by
  cases q : scr K a o xs b with
  | none => rfl
  | some u =>
    obtain ⟨rfl, n, _⟩ := scr_some q
    rw [n] at e
    cases e)
theorem scr_seer (hd : ∀ es ep, o.data ≠ .dict es ep) (hc : o.cls ≠ .type "module") (x : h.NoSeer) : (hidT h (scr K a o xs)).NoSeer where
  statics := let ⟨mc, q, r⟩ := x.statics; ⟨mc, scr_ns ha hd q, r⟩
  mods := let ⟨mc, q, r⟩ := x.mods; ⟨mc, scr_ns ha hd q, r⟩
  imp := let ⟨mc, q, r⟩ := x.imp; ⟨mc, scr_ns ha hd q, r⟩
  main := let ⟨mg, bm, ob, q, r, e, c, d⟩ := x.main; ⟨mg, bm, ob, scr_ns ha hd q, r, hidT_get e (scr_other ha e (.inl fun z => hc (z.symm.trans c))), c, d⟩
end
theorem law_callN {P : Program} {w : World} {K : PySem.W.Frag} {mg mb : Str → Option Value} {k : Nat} {fa a : Addr} {fd : FuncData} {x : Str} {sp : Sp} {s₁ : Shared} {vs : List Value} {ns : List Int}
    (X : K.In s₁.heap) (hns : s₁.heap.Ns mainGlobals mg) (hb : s₁.heap.Ns builtinsNs mb) (hbb : ∀ x : Str, x ≠ "__name__" → mb x = bootBuiltins x) (hlim : s₁.heap.NoLimit) (hseer : s₁.heap.NoSeer) (hg : s₁.gens = #[])
    (ha : s₁.heap.get? a = some { cls := .type "list", data := .seq vs.toArray }) (hi : IntsAre vs ns) (hl : ns.length ≤ sizeLine) (hr : Room k callerA)
    (F : ∀ base : Heap, K.In base → base.Ns mainGlobals mg → base.NoSeer → FnOk P w K mg base CX0 k fa fd [x] sp) (hbind : ∀ (s : Shared) (u : Value), BindsTo s fd ⟨[u], []⟩ [(x, u)])
    (hsp : ∀ H : Hp, Only H → SqL K H a (ns.map V.int) → sp [.ref a] H (fun v _ => v = .bl true) fun _ _ _ => False) :
    codeAny (model P w) callerA (.call (.ref fa) ⟨[.ref a], []⟩) (fun r s' => r = .ok (.ret (.bool true)) ∧ OldK s₁.heap s'.heap ∧ s'.os = s₁.os ∧ AllBare s'.gens) s₁ := by
  have hd : ∀ es ep, ({ cls := .type "list", data := .seq vs.toArray } : Obj).data ≠ .dict es ep := fun es ep z => by cases z
  have rv := vals_ints hi
  generalize hHdef : scr K a { cls := .type "list", data := .seq vs.toArray } (ns.map V.int) = H
  have hO : Only H := hHdef ▸ scr_only
  have hSq : SqL K H a (ns.map V.int) := by
    cases hk : K.lookup a with
    | none => exact .inl (.inr ⟨_, by rw [← hHdef]; exact if_pos ⟨rfl, hk⟩⟩)
    | some o =>
      have e := X a o hk
      rw [ha] at e
      cases e
      exact .inr ⟨_, vs.toArray, _, hk, rfl, rfl, rfl, by rw [List.size_toArray, hi.length]; exact hl, by simpa using rv⟩
  have hok : HOk P w H s₁.heap := fun b u z => by
    rw [← hHdef] at z
    obtain ⟨rfl, _, rfl⟩ := scr_some z
    exact ⟨ha, by rw [List.length_map]; exact hl, vs, _, rv, ha⟩
  have hIn : K.In (hidT s₁.heap H) := hHdef ▸ scr_in ha X
  have hNs : ∀ {b : Addr} {m : Str → Option Value}, s₁.heap.Ns b m → (hidT s₁.heap H).Ns b m := fun q => hHdef ▸ scr_ns ha hd q
  have hSr : (hidT s₁.heap H).NoSeer := hHdef ▸ scr_seer ha hd (fun z => absurd (Value.type.inj z) (by decide)) hseer
  have e0 : Env0 P w K mg (hidT s₁.heap H) callerA [] s₁ H :=
    ⟨rfl, ⟨hIn, hNs hns, ⟨mb, hNs hb, hbb⟩, let ⟨mc, h1, h2⟩ := hlim; ⟨mc, hNs h1, h2⟩⟩, fun b o e => of_hidT e, Nat.le_of_eq (hidT_size _ _), trivial, (fun b hb => nomatch (show b ∈ ([] : List Addr) from hb)), hok, .of_eq hg⟩
  have main := (F _ hIn (hNs hns) hSr).run callerA [] s₁ H ⟨[.ref a], []⟩ [.ref a] [.ref a] _ _ hr e0 (hbind s₁ (.ref a)) (.cons rfl .nil) (hsp H hO hSq)
  refine codeAny_mono main fun r s' q => ?_
  match r, q with
  | .error e, q => exact q.elim
  | .ok .next, q => exact False.elim q
  | .ok .brk, q => exact False.elim q
  | .ok .cont, q => exact False.elim q
  | .ok (.ret u), q =>
    obtain ⟨v, H', os, bare, un, hok', rr, qv⟩ := q
    cases (show v = .bl true from qv)
    cases (show u = Value.bool true from rr)
    refine ⟨rfl, OldK.of_keep fun b o e => ?_, os, bare⟩
    cases hb' : H b with
    | none => exact un.keep b o e hb' (fun z => nomatch (show b ∈ ([] : List Addr) from z)) (by simp)
    | some u =>
      obtain ⟨ob, l, z⟩ := (hO b).resolve_left (by rw [hb']; simp)
      have e1 := (hok b _ z).1
      rw [e] at e1
      cases e1
      exact (hok' b _ (un.frzs b _ _ z)).1
theorem walk_ofN {l : PySem.W.OpenLaw} {n k : Nat} {q : Program} {loose : List Str} {XP : (Str → Option Value) → Heap → Prop} {YP : World → Heap → Prop} {d : DefRec} {K : Params → PySem.W.Frag} {sp : PySem.W.Frag → Sp} {x : Str}
    (hn : l.most = some n) (hn2 : n ≤ sizeLine) (hdf : d.params.defaults = []) (hr : Room k callerA) (hq : importsNone q = true)
    (hY : ∀ (w : World) (h : Heap), YP w h → (K w.params).In h)
    (F : ∀ (w : World) (mg : Str → Option Value) (fa : Addr) (h : Heap), YP w h → (K w.params).In h → h.Ns mainGlobals mg → mg d.name = some (.ref fa) →
      ∃ fd : FuncData, (∀ (s : Shared) (u : Value), BindsTo s fd ⟨[u], []⟩ [(x, u)]) ∧
        ∀ base : Heap, (K w.params).In base → base.Ns mainGlobals mg → base.NoSeer → FnOk l.prog w (K w.params) mg base CX0 k fa fd [x] (sp (K w.params)))
    (hsp : ∀ (K : PySem.W.Frag) (H : Hp) (a : Addr) (ns : List Int), ns.length ≤ n → (∀ z ∈ ns, Builtin.Int.intBits z ≤ 1048576) → SqL K H a (ns.map V.int) → sp K [.ref a] H (fun v _ => v = .bl true) fun _ _ _ => False) :
    PySem.W.WalkO q loose XP YP l.row.toRowW d [] (fun f vs => PySem.call f vs) := by
  refine Att.attach_callB hn hdf fun w s₀ s₁ mg mb fa o pm cd doc a vs ns G Y ho hd hcd hmg hobj hints hlen hbits hg => ?_
  have X := hY w _ Y
  obtain ⟨fd, hb, hF⟩ := F w mg fa _ Y X G.T.g hmg
  exact law_callN X G.T.g G.T.b G.T.builtins G.T.nolimit (G.T.seer hq) hg hobj hints (Nat.le_trans hlen hn2) hr hF hb fun H _ hS => hsp _ H a ns hlen hbits hS
end Gm
/-! != of an own class that has only its own == -/
namespace Gm
open PySem PySem.Spec PyProof.Rows L2
section
variable {prog : Program} {w : World} {A : Around} {E : Value → Shared → Prop} {s : Shared} {K : PySem.W.Frag} {x y C f : Addr} {ox oy : Obj} {od od' : Option Obj}
/-- the end of the def's call, turned -/
abbrev NotBack (Q : Value → Shared → Prop) : Value → Shared → Prop := fun v s' => ∃ b, v = Value.bool b ∧ Q (.bool (!b)) s'
theorem objNe_body {Q : Fin → Shared → Prop} (X : K.In s.heap) (J : PySem.W.InstAt s.heap x ox C od) (hs : PySem.W.findIn K (.ref C) "__eq__" = some (some (.ref f))) (hf : PySem.W.isFn K (.ref f) = true) (hu : A.units < cLine)
    (h : wpAny (model prog w) A (call (.ref f) [.ref x, .ref y]) (fun v s' => ∃ b, v = Value.bool b ∧ Q (.done (.ret (.bool (!b)))) s') E s) : wpAny (model prog w) A (Builtin.«object.__ne__» ⟨[.ref x, .ref y], []⟩) Q E s := by
  unfold Builtin.«object.__ne__»
  repeat (first
    | with_reducible refine wpAny_cRoomFor hu ?_
    | (refine wpAny_bind (m := callSpecialIfBound? (.ref x) (Str.ofString "__eq__") [.ref y]) (PySem.W.ifBound_K X J hs hf (wpAny_mono h (fun v s' hv => ?_) fun _ _ e => e))
       obtain ⟨b, rfl, hq⟩ := hv
       repeat (first | exact hq | exact wpAny_pure hq | exact wpAny_truthy_bool hq | (refine wpAny_bind (m := truthy (.bool _)) (wpAny_truthy_bool ?_)) | wp_step))
    | wp_step)
theorem objNe_call {Q : Value → Shared → Prop} (X : K.In s.heap) (J : PySem.W.InstAt s.heap x ox C od) (hm : PySem.W.mroIn K C (.type "object") = some true) (hs : PySem.W.findIn K (.ref C) "__eq__" = some (some (.ref f))) (hf : PySem.W.isFn K (.ref f) = true) (hu : A.units + 1 < cLine)
    (h : wpAny (model prog w) A.in1 (call (.ref f) [.ref x, .ref y]) (NotBack Q) E s) : wpAny (model prog w) A (call (.builtin "object.__ne__") [.ref x, .ref y]) Q E s := by
  refine wpAny_call (codeAny_call_builtin F.cmp_object.ne.plain F.cmpEntry_ne (PySem.W.check_slot F.cmpKind_ne F.cmpSplit_ne (J.type.andThen (PySem.W.looks_mroIn X hm)) (F.cmpArgs_ne _ _) ?_))
  exact objNe_body X J hs hf hu h
theorem objNe_bound {args : List Value} {Q : Option Value → Shared → Prop} (X : K.In s.heap) (J : PySem.W.InstAt s.heap x ox C od) (hn : PySem.W.findIn K (.ref C) "__ne__" = some (some (.builtin "object.__ne__")))
    (h : wpAny (model prog w) A (call (.builtin "object.__ne__") (.ref x :: args)) (fun v => Q (some v)) E s) : wpAny (model prog w) A (callSpecialIfBound? (.ref x) "__ne__" args) Q E s := by
  have last : wpAny (model prog w) A (call (.builtin "object.__ne__") ([.ref x] ++ args) >>= fun v => pure (some v)) Q E s := wpAny_bind (wpAny_mono h (fun _ _ z => wpAny_pure z) fun _ _ z => z)
  have bnd := F.cmp_object.ne.bind (.ref x)
  simp only [callSpecialIfBound?, bindSpecialIfBound?]
  refine wpAny_holding (wpAny_bind (wpAny_bind (wpAny_bind (J.type.here ((PySem.W.looks_findIn X hn).here (wpAny_bind (wpAny_askSetting (wpAny_ite ?_))))))))
  split
  · exact wpAny_bind (wpAny_of_eq (F.cmp_object.ne.bind _) (wpAny_pure (by exact last)))
  · exact wpAny_tryCatch (wpAny_bind (wpAny_of_eq (F.cmp_object.ne.bind _) (wpAny_pure (by exact last))))
theorem cmpNe_K {Q : Value → Shared → Prop} (X : K.In s.heap) (J : PySem.W.InstAt s.heap x ox C od) (J' : PySem.W.InstAt s.heap y oy C od') (hm : PySem.W.mroIn K C (.type "object") = some true)
    (hn : PySem.W.findIn K (.ref C) "__ne__" = some (some (.builtin "object.__ne__"))) (hs : PySem.W.findIn K (.ref C) "__eq__" = some (some (.ref f))) (hf : PySem.W.isFn K (.ref f) = true) (hu : A.units + 1 < cLine)
    (h : wpAny (model prog w) A.in1 (call (.ref f) [.ref x, .ref y]) (NotBack Q) E s) : wpAny (model prog w) A (compareOp .NotEq (.ref x) (.ref y)) Q E s := by
  show wpAny (model prog w) A (richCompare .NotEq (.ref x) (.ref y)) Q E s
  have one : wpAny (model prog w) A (tryCompare (.ref x) "__ne__" (.ref y)) (fun r s' => ∃ v, r = some v ∧ Q v s') E s := by
    unfold tryCompare
    refine wpAny_bind (objNe_bound X J hn (objNe_call X J hm hs hf hu (wpAny_mono h (fun v s' hv => ?_) fun _ _ e => e)))
    obtain ⟨b, rfl, hq⟩ := hv
    exact ⟨b, rfl, wpAny_pure ⟨_, rfl, hq⟩⟩
  unfold richCompare
  rw [cmpInfo_NotEq]
  simp only [oneThing_ref]
  refine wpAny_holding (wpAny_bind (wpAny_cRoomFor (by omega) ?_))
  refine wpAny_bind (J.type.here (wpAny_bind (J'.type.here ?_)))
  rw [show (Value.ref C != Value.ref C) = false from by simp]
  simp only [Bool.false_eq_true, if_false]
  refine wpAny_bind (wpAny_pure ?_)
  simp only [Bool.false_eq_true, if_false]
  refine wpAny_bind (wpAny_mono one (fun r s' z => ?_) fun _ _ e => e)
  obtain ⟨v, rfl, hq⟩ := z
  exact wpAny_pure hq
end
section
variable {X : Cx} {C f : Addr} {fd : FuncData} {ps : List Str} {CX : CXT} {k : Nat} {sp : Sp}
/-- a != b, both instances of one own class that defines == (its own def answers True or False) -/
def rOwnNe (C : Addr) (sp : Sp) (E : XK) : R2 := fun x y H Q => ∃ a b dx dy fs gs, x = .ref a ∧ y = .ref b ∧ H a = some (.ins C dx fs) ∧ H b = some (.ins C dy gs) ∧ sp [x, y] H (fun v H' => ∃ t, v = .bl t ∧ Q (.bl (!t)) H') E
theorem op_ownNe {E : XK} (hm : PySem.W.mroIn X.K C (.type "object") = some true) (hn : PySem.W.findIn X.K (.ref C) "__ne__" = some (some (.builtin "object.__ne__"))) (hs : PySem.W.findIn X.K (.ref C) "__eq__" = some (some (.ref f))) (hf : PySem.W.isFn X.K (.ref f) = true)
    (F : FnOk X.prog X.w X.K X.mg X.base CX k f fd ps sp) (hr : Room (k + 1) X.A) (hb : Binds X.K fd ps []) (hx : ∀ (H : Hp) (s : Shared) (e : Value) (s' : Shared), CX X.stack H s E e s' → False) : OpR X (compareOp .NotEq) (rOwnNe C sp E) := by
  intro pn sg σ H x y v u Q I rx ry h
  obtain ⟨a, b, dx, dy, fs, gs, rfl, rfl, ha, hb', q⟩ := h
  cases rx
  cases ry
  obtain ⟨od, J⟩ := inst_of I ha
  obtain ⟨od', J'⟩ := inst_of I hb'
  refine cmpNe_K I.kIn J J' hm hn hs hf (by have := hr.units; omega) ?_
  have hl := F.len _ _ _ _ q
  have rv : Vals [V.ref a, V.ref b] [Value.ref a, Value.ref b] := .cons rfl (.cons rfl .nil)
  refine wpAny_call (codeAny_mono (F.run X.A.in1 X.stack sg H ⟨[.ref a, .ref b], []⟩ [.ref a, .ref b] [.ref a, .ref b] _ E hr.in1 I.env0.in1 (by
    have := hb sg [.ref a, .ref b] I.kIn (by simpa using hl)
    simpa using this) rv q) fun r s' hq => ?_)
  cases r with
  | error e => exact (hx _ _ _ _ hq).elim
  | ok fl =>
    cases fl with
    | ret w =>
      obtain ⟨z, H', I', rz, t, ez, ex⟩ := I.after hq
      subst ez
      cases (show w = Value.bool t from rz)
      exact ⟨t, rfl, .bl (!t), H', I', rfl, ex⟩
    | next => exact False.elim hq
    | brk => exact False.elim hq
    | cont => exact False.elim hq
end
end Gm
/-! A tuple times 0, 1 or more. -/
namespace Gm
open PySem PySem.Spec PyProof.Rows L2
theorem mul_one_tup (l : Addr) (items : Array Value) (n : Nat) (dd : Option Addr) (sl : Array (Option Value)) (u : Tok) :
    Meets (Builtin.«tuple.__mul__» ⟨[.ref l, .int 1 u], []⟩) (fun _ R s => s.heap.get? l = some { cls := .type "tuple", dict := dd, data := .seq items n, slots := sl } ∧ R (.ok (.ret (Value.ref l))) s) :=
  .of_wp fun prog w A R s h => by
    obtain ⟨h0, g, d, tk, os⟩ := s
    obtain ⟨hGet, h⟩ := h
    have f1 := AutoSeq1.idx_int
    have c0 : (decide ((1 : Int) < -(2 ^ 63)) || decide ((1 : Int) ≥ 2 ^ 63)) = false := by decide
    have c1 : (items.isEmpty || (1 : Int) == 1) = true := by simp
    wp_walk using AutoSeq1.wpAny_loadPart' hGet
    repeat (first
      | (refine wpAny_ite_false (decide_eq_false (by rw [c0]; exact Bool.false_ne_true)) ?_; wp_walk using AutoSeq1.wpAny_loadPart' hGet)
      | (refine wpAny_ite_true (decide_eq_true (by rw [c1])) ?_; wp_walk using AutoSeq1.wpAny_loadPart' hGet))
    exact ⟨_, rfl, h⟩
theorem mul_zero_tup (l : Addr) (items : Array Value) (n : Nat) (dd : Option Addr) (sl : Array (Option Value)) (u : Tok) (hi : items.isEmpty = false) :
    Meets (Builtin.«tuple.__mul__» ⟨[.ref l, .int 0 u], []⟩) (fun _ R s => s.heap.get? l = some { cls := .type "tuple", dict := dd, data := .seq items n, slots := sl } ∧
      R (.ok (.ret (Value.ref s.heap.objs.size))) { s with heap := s.heap.push { cls := Value.type "tuple", data := Data.seq #[] }, toks := s.toks }) :=
  .of_wp fun prog w A R s h => by
    obtain ⟨h0, g, d, tk, os⟩ := s
    obtain ⟨hGet, h⟩ := h
    have f1 := AutoSeq1.idx_int
    have c0 : (decide ((0 : Int) < -(2 ^ 63)) || decide ((0 : Int) ≥ 2 ^ 63)) = false := by decide
    have c1 : (items.isEmpty || (0 : Int) == 1) = false := by rw [hi]; decide
    have c2 : (decide ((0 : Int) ≤ 0) || items.isEmpty) = true := by simp
    wp_walk using AutoSeq1.wpAny_loadPart' hGet
    repeat (first
      | (refine wpAny_ite_false (decide_eq_false (by rw [c0]; exact Bool.false_ne_true)) ?_; wp_walk using AutoSeq1.wpAny_loadPart' hGet)
      | (refine wpAny_ite_false (decide_eq_false (by rw [c1]; exact Bool.false_ne_true)) ?_; wp_walk using AutoSeq1.wpAny_loadPart' hGet)
      | (refine wpAny_ite_true (decide_eq_true (by rw [c2])) ?_; wp_walk using AutoSeq1.wpAny_loadPart' hGet))
    exact ⟨_, rfl, h⟩
/-- xs * k for a tuple that is not empty, k from 0 on -/
def rRepA (K : Frag) : R2 := fun x y H Q => ∃ l k xs, x = .ref l ∧ y = .int k ∧ SqT K H l xs ∧ xs ≠ [] ∧ 0 ≤ k ∧ k ≤ 1000 ∧ xs.length ≤ 1000 ∧ (k = 1 → Q (.ref l) H) ∧ (k ≠ 1 → ∀ p, H p = none → Q (.ref p) (upd H p (.tup (List.replicate k.toNat xs).flatten)))
section
variable {X : Cx}
theorem op_repA : OpR X (binaryOp .Mult) (rRepA X.K) := by
  intro pn sh σ H x y v u Q I rx ry h
  obtain ⟨l, k, xs, rfl, rfl, hT, hne, h1, h2, hz, q1, q2⟩ := h
  by_cases k2 : 2 ≤ k
  · exact op_repT pn sh σ H _ _ _ _ Q I rx ry ⟨l, k, xs, rfl, rfl, hT, hne, k2, h2, hz, q2 (by omega)⟩
  cases rx
  obtain ⟨t, rfl⟩ := ry
  obtain ⟨vals, r, ⟨⟨cls, dd, data, sl⟩, ho, hc, n, hd⟩, hs⟩ := I.tuple hT
  simp only at hc hd
  subst hc hd
  have hi : vals.toArray.isEmpty = false := by
    cases vals with
    | nil => exact absurd (List.eq_nil_of_length_eq_zero r.length) hne
    | cons a b => rfl
  by_cases k1 : k = 1
  · subst k1
    refine wpAny_binaryOp_repeat_ref (T := "tuple") (U := "int") (by decide) ⟨_, ho, rfl⟩ (fun s' => typeIs_int s' 1 t) noFill_tuple_mul F.fills_int_mul F.slot_int_rmul repeat_tuple F.slot_int_index.lookup
      (call_meets F.slot_int_rmul (typeIs_int sh 1 t) F.entry_int_rmul (F.args_int_rmul_2 _ _) (int_rmul_tuple 1 t l vals.toArray n dd sl)
        ⟨ho, rfl, ⟨_, ho, rfl⟩, call_meets F.slot_tuple_mul ⟨_, ho, rfl⟩ F.entry_tuple_mul (F.args_tuple_mul_2 _ _) (mul_one_tup l vals.toArray n dd sl t) ⟨ho, ?_⟩⟩)
    exact ⟨.ref l, H, I, rfl, q1 rfl⟩
  · obtain rfl : k = 0 := by omega
    refine wpAny_binaryOp_repeat_ref (T := "tuple") (U := "int") (by decide) ⟨_, ho, rfl⟩ (fun s' => typeIs_int s' 0 t) noFill_tuple_mul F.fills_int_mul F.slot_int_rmul repeat_tuple F.slot_int_index.lookup
      (call_meets F.slot_int_rmul (typeIs_int sh 0 t) F.entry_int_rmul (F.args_int_rmul_2 _ _) (int_rmul_tuple 0 t l vals.toArray n dd sl)
        ⟨ho, rfl, ⟨_, ho, rfl⟩, call_meets F.slot_tuple_mul ⟨_, ho, rfl⟩ F.entry_tuple_mul (F.args_tuple_mul_2 _ _) (mul_zero_tup l vals.toArray n dd sl t hi) ⟨ho, ?_⟩⟩)
    have q := q2 (by decide) sh.heap.objs.size (I.hok.fresh (Nat.le_refl _))
    refine ⟨.ref sh.heap.objs.size, _, I.laid (t' := sh.toks) (o := .tup []) (fun b ob q => Heap.get?_push_of_some _ q) (Nat.le_refl _) ⟨Nat.zero_le _, [], .nil, IsTup.new _ _⟩, rfl, q⟩
theorem repAK (K : Frag) (hK : X.K = K) : OpR X (binaryOp .Mult) (rRepA K) := by subst hK; exact op_repA
end
end Gm
/-! Making an object, and an own operator, that may raise: what is raised is wished for at the caller's slots. -/
namespace Gm
open PySem PySem.Spec PyProof.Rows L2
section
variable {X : Cx} {C f : Addr} {fd : FuncData} {ps : List Str} {CX : CXT} {k : Nat} {sp : Sp} {E : L2.St → XK} {x : Str} {p pos : Pos} {e : Expr} {es : List Expr} {t : TA} {dvs : List V} {ds : List Value}
def tMakeS (C : Addr) (sp : Sp) (dvs : List V) (E : L2.St → XK) (t : TA) : TE := fun σ H Q => t σ H fun vs H1 => ∀ x dx, H1 x = none → H1 dx = none → dx ≠ x → sp (.ref x :: (vs ++ dvs)) (upd (upd H1 dx (.own x)) x (.ins C dx [])) (fun v H2 => v = .non ∧ Q (.ref x) H2) (E σ)
theorem pe_makeS (M : Mk X.K C f) (F : FnOk X.prog X.w X.K X.mg X.base CX k f fd ps sp) (hr : Room (k + 1) X.A) (hg : Gl X x) (hm : X.mg x = some (.ref C)) (hb : Binds X.K fd ps ds) (hd : Vals dvs ds) (hx : ∀ σ, PassesAt CX X σ (E σ))
    (ha : PA X (e :: es) t) (hdb : (x == ("__debug__" : Str)) = false := by decide) (he : starEach (e :: es) X.env = (false, eval e X.env) :: starEach es X.env := by rfl) (hpl : (backTo pos (starEach es X.env)).any (·.1) = false := by rfl) :
    PE X (.Call (.Name x p) (e :: es) [] pos) (tMakeS C sp dvs E t) := by
  refine ⟨fun pn sh σ H Q I h => ?_⟩
  refine wpAny_Call_Name_kw (ld_glob I hg hm ?_ hdb)
  refine PySem.W.callWith_K (h₀ := X.base) I.ok.mod.kin M.kp (thn (ha.run pos pn sh σ H _ I h) fun argv sA ⟨vs, H1, J, rel, q⟩ => ⟨J.kIn, ?_⟩) he hpl
  have q0 := q (sA.heap.objs.size + 1) sA.heap.objs.size (J.hok.fresh (Nat.le_succ _)) (J.hok.fresh (Nat.le_refl _)) (Nat.ne_of_lt (Nat.lt_succ_self _))
  have J2 := Inv.made (C := C) J
  have rel2 : Vals (V.ref (sA.heap.objs.size + 1) :: (vs ++ dvs)) (Value.ref (sA.heap.objs.size + 1) :: (argv ++ ds)) := .cons rfl (rel.append hd)
  have hl : (Value.ref (sA.heap.objs.size + 1) :: argv ++ ds).length = ps.length := by
    have el := rel2.length
    rw [F.len _ _ _ _ q0] at el
    exact el.symm
  have main := F.run _ X.stack _ _ ⟨Value.ref (sA.heap.objs.size + 1) :: argv, []⟩ (Value.ref (sA.heap.objs.size + 1) :: (argv ++ ds)) _ _ (E σ) (hr.make C argv []) (J2.env0.make C argv []) (hb _ (Value.ref (sA.heap.objs.size + 1) :: argv) J2.kIn hl) rel2 q0
  refine wpAny_call (make_map (f := f) J.kIn M.makes M.init (beq_iff_eq.mp M.fn) (codeAny_mono main fun r s' z => ?_))
  match r, z with
  | .error er, z => exact hx σ pn _ _ er s' J2 z
  | .ok (.ret u), z =>
    obtain ⟨v, H', J3, rv, ev, q3⟩ := J2.after z
    subst ev
    exact ⟨rv, ⟨V.ref (sA.heap.objs.size + 1), H', J3, rfl, q3⟩⟩
  | .ok .next, z => exact False.elim z
  | .ok .brk, z => exact False.elim z
  | .ok .cont, z => exact False.elim z
end
section
variable {X : Cx} {C f : Addr} {fd : FuncData} {ps : List Str} {CX : CXT} {k : Nat} {sp : Sp} {E : L2.St → XK} {a b : Expr} {ta tb : TE} {pos : Pos}
/-- a op b of one own class, where the def may raise -/
def tOpS (C : Addr) (sp : Sp) (E : L2.St → XK) (ta tb : TE) : TE := fun σ H Q => ta σ H fun x H1 => tb σ H1 fun y H2 => ∃ c d dx dy fs gs, x = .ref c ∧ y = .ref d ∧ H2 c = some (.ins C dx fs) ∧ H2 d = some (.ins C dy gs) ∧ sp [x, y] H2 Q (E σ)
theorem pe_opS {op : Operator} (hc : PySem.W.selfFirst X.K C = true) (hs : PySem.W.findIn X.K (.ref C) (PySem.dunder op.info.2) = some (some (.ref f))) (hf : PySem.W.isFn X.K (.ref f) = true)
    (F : FnOk X.prog X.w X.K X.mg X.base CX k f fd ps sp) (hr : Room k X.A) (hb : Binds X.K fd ps []) (hx : ∀ σ, PassesAt CX X σ (E σ)) (ha : PE X a ta) (hb' : PE X b tb) : PE X (.BinOp a op b pos) (tOpS C sp E ta tb) := by
  refine ⟨fun pn sh σ H Q I h => ?_⟩
  refine wpAny_BinOp (binT ha hb' I h fun v u s2 x y H2 I2 rx ry q => ?_)
  obtain ⟨c, d, dx, dy, fs, gs, rfl, rfl, hc1, hd1, q⟩ := q
  cases rx
  cases ry
  obtain ⟨od, J⟩ := inst_of I2 hc1
  obtain ⟨od', J'⟩ := inst_of I2 hd1
  obtain ⟨m, hF⟩ := I2.fr
  refine PySem.W.binop_K hF I2.ok.mod.kin J J'.type hc hs hf ?_
  refine wpAny_mono (run_fnS (us := [.ref c, .ref d]) (vs := [.ref c, .ref d]) F hr hb (hx σ) I2 (.cons rfl (.cons rfl .nil)) q) (fun w s' z => ?_) fun _ _ z => z
  obtain ⟨zR, HR, IR, relZ, postZ⟩ := z
  exact SlX.cmpback relZ ⟨zR, HR, IR, relZ, postZ⟩
end
end Gm
/-! list(zip(xs, ys)) of two tuples. -/
namespace Gm
open PySem PySem.Spec PyProof.Rows L2 RZ
abbrev ZipF (h : Heap) (z TI TO T0 : Addr) (f : Bool) : Prop :=
  h.get? z = some { cls := .type "zip", dict := none, data := .fields #[rawInt T0, .bool f, .bool false, .ref TI, .ref TO], slots := #[] }
section
variable {prog : Program} {w : World} {A : Around} {E : Value → Shared → Prop} {s : Shared}
theorem zip_busy {z TI TO T0 : Addr} {f : Bool} {oT : Obj} {Q : Bool → Shared → Prop} (hz : ZipF s.heap z TI TO T0 f) (hT : s.heap.get? T0 = some oT)
    (q : ∀ h', ZipF h' z TI TO T0 true → Heap.SameBut z s.heap h' → Q false { s with heap := h' }) : wpAny (model prog w) A (Builtin.SmallTypes.ownedTupleIsFree (.ref z)) Q E s := by
  unfold Builtin.SmallTypes.ownedTupleIsFree
  refine wpAny_bind (wpAny_field hz rfl (x := rawInt T0) rfl ?_)
  show wpAny _ _ (loadIfAlive ((T0 : Int)).toNat >>= _) _ _ _
  rw [Int.toNat_natCast]
  refine wpAny_bind (PySem.W.kdx_alive hT ?_)
  simp only [Option.isNone_some, Bool.false_eq_true, if_false]
  refine wpAny_bind (wpAny_field hz rfl (x := .bool f) rfl ?_)
  cases f with
  | false =>
    rw [if_pos (by decide)]
    refine wpAny_bind (wpAny_setField_rec hz (by simp) fun h1 hz1 hs1 => wpAny_pure (q h1 hz1 hs1))
  | true =>
    rw [if_neg (by decide)]
    exact wpAny_pure (q s.heap hz ⟨rfl, fun _ _ => rfl⟩)
theorem zipT_busy_item {z TI TO T0 i1 i2 l1 l2 : Addr} {f : Bool} {oT : Obj} {k1 k2 : Nat} {xs ys : Array Value} {x y : Value} {Q : Value → Shared → Prop} (D : ZipApart z TI TO i1 i2 l1 l2)
    (hz : ZipF s.heap z TI TO T0 f) (hT : s.heap.get? T0 = some oT) (hTI : IsPair s.heap TI (.ref i1) (.ref i2))
    (h1 : s.heap.IsTupleIter i1 l1 k1) (h2 : s.heap.IsTupleIter i2 l2 k2) (hl1 : s.heap.IsTuple l1 xs) (hl2 : s.heap.IsTuple l2 ys) (hx : xs[k1]? = some x) (hy : ys[k2]? = some y)
    (hQ : ∀ h', ZipF h' z TI TO T0 true → h'.IsTupleIter i1 l1 (k1 + 1) → h'.IsTupleIter i2 l2 (k2 + 1) → IsPair h' s.heap.objs.size x y → h'.objs.size = s.heap.objs.size + 1 →
      (∀ c o, c ≠ z → c ≠ i1 → c ≠ i2 → s.heap.get? c = some o → h'.get? c = some o) → Q (.ref s.heap.objs.size) { s with heap := h' }) :
    wpAny (model prog w) A (Builtin.«zip.__next__» ⟨[.ref z], []⟩) (fun fin s' => ∃ v, fin = .done (.ret v) ∧ Q v s') E s := by
  show wpAny _ _ (field (.ref z) 2 >>= _) _ _ _
  refine wpAny_bind (wpAny_field hz rfl (x := .bool false) rfl ?_)
  show wpAny _ _ (field (.ref z) 3 >>= _) _ _ _
  refine wpAny_bind (wpAny_field hz rfl (x := .ref TI) rfl ?_)
  refine wpAny_bind (wpAny_seqItems hTI rfl ?_)
  show wpAny _ _ (Builtin.SmallTypes.ownedTupleIsFree (.ref z) >>= _) _ _ _
  refine wpAny_bind (zip_busy hz hT fun g1 hz1 hs1 => ?_)
  simp only [Bool.false_eq_true, if_false]
  refine wpAny_bind ?_
  rw [← Array.forIn_toList]
  simp only [List.forIn_cons, List.forIn_nil]
  refine wpAny_bind (wpAny_bind (wpAny_holding ?_))
  show wpAny _ _ (Builtin.SmallTypes.nextOf (.ref i1) >>= _) _ _ _
  refine wpAny_bind (nextOf_tuple_item (h1.extBut hs1.extBut D.i1z) (hl1.extBut hs1.extBut D.l1z) hx fun g2 h12 hs2 => wpAny_pure ?_)
  refine wpAny_pure ?_
  dsimp only
  refine wpAny_bind (wpAny_bind (wpAny_holding ?_))
  show wpAny _ _ (Builtin.SmallTypes.nextOf (.ref i2) >>= _) _ _ _
  refine wpAny_bind (nextOf_tuple_item ((h2.extBut hs1.extBut D.i2z).extBut hs2.extBut D.i12.symm) ((hl2.extBut hs1.extBut D.l2z).extBut hs2.extBut D.l2i1) hy fun g3 h23 hs3 => wpAny_pure ?_)
  refine wpAny_pure ?_
  dsimp only
  refine wpAny_pure ?_
  dsimp only
  refine wpAny_bind (wpAny_newTuple ?_ (by show 2 ≤ sizeLine; decide))
  have hsz : g3.objs.size = s.heap.objs.size := by rw [hs3.1, hs2.1, hs1.1]
  have hz3 : ZipF g3 z TI TO T0 true := hs3.extBut _ _ D.i2z.symm (hs2.extBut _ _ D.i1z.symm hz1)
  have hk3 : ∀ c o, c ≠ z → c ≠ i1 → c ≠ i2 → s.heap.get? c = some o → g3.get? c = some o := fun c o c1 c2 c3 e => hs3.extBut _ _ c3 (hs2.extBut _ _ c2 (hs1.extBut _ _ c1 e))
  have h13 : g3.IsTupleIter i1 l1 (k1 + 1) := h12.extBut hs3.extBut D.i12
  refine wpAny_pure ⟨_, rfl, ?_⟩
  show Q (.ref g3.objs.size) _
  have hT3 : IsPair (g3.push { cls := .type "tuple", data := .seq #[x, y] }) g3.objs.size x y := Heap.get?_push_size _ rfl
  have up : ∀ c o, g3.get? c = some o → (g3.push { cls := .type "tuple", data := .seq #[x, y] }).get? c = some o := fun c o e => Heap.get?_push_of_some _ e
  rw [hsz] at hT3 ⊢
  exact hQ _ (up _ _ hz3) (h13.at fun o e => up _ o e) (h23.at fun o e => up _ o e) hT3 (by rw [Heap.size_push, hsz]) fun c o c1 c2 c3 e => up c o (hk3 c o c1 c2 c3 e)
theorem zipT_busy_end {z TI TO T0 i1 i2 l1 l2 : Addr} {f : Bool} {oT : Obj} {k1 : Nat} {xs : Array Value} {Q : Fin → Shared → Prop} (hh : A.handled = none) (D : ZipApart z TI TO i1 i2 l1 l2)
    (hz : ZipF s.heap z TI TO T0 f) (hT : s.heap.get? T0 = some oT) (hTI : IsPair s.heap TI (.ref i1) (.ref i2))
    (h1 : s.heap.IsTupleIter i1 l1 k1) (hl1 : s.heap.IsTuple l1 xs) (hend : xs[k1]? = none)
    (hE : ∀ h' e, (∀ c o, c ≠ z → c ≠ i1 → s.heap.get? c = some o → h'.get? c = some o) → (∃ o, h'.get? e = some o ∧ o.cls = .type "StopIteration") → E (.ref e) { s with heap := h' }) :
    wpAny (model prog w) A (Builtin.«zip.__next__» ⟨[.ref z], []⟩) Q E s := by
  show wpAny _ _ (field (.ref z) 2 >>= _) _ _ _
  refine wpAny_bind (wpAny_field hz rfl (x := .bool false) rfl ?_)
  show wpAny _ _ (field (.ref z) 3 >>= _) _ _ _
  refine wpAny_bind (wpAny_field hz rfl (x := .ref TI) rfl ?_)
  refine wpAny_bind (wpAny_seqItems hTI rfl ?_)
  show wpAny _ _ (Builtin.SmallTypes.ownedTupleIsFree (.ref z) >>= _) _ _ _
  refine wpAny_bind (zip_busy hz hT fun g1 hz1 hs1 => ?_)
  simp only [Bool.false_eq_true, if_false]
  refine wpAny_bind ?_
  rw [← Array.forIn_toList]
  simp only [List.forIn_cons, List.forIn_nil]
  refine wpAny_bind (wpAny_bind (wpAny_holding ?_))
  show wpAny _ _ (Builtin.SmallTypes.nextOf (.ref i1) >>= _) _ _ _
  refine wpAny_bind (nextOf_tuple_end hh (h1.extBut hs1.extBut D.i1z) (hl1.extBut hs1.extBut D.l1z) hend ?_)
  intro h' e ext he
  exact hE h' e (fun c o c1 c2 x => ext c o c2 (hs1.extBut c o c1 x)) he
/-- the zip's cells before its turn i -/
def ZS (h : Heap) (z TI TO i1 i2 l1 l2 : Addr) (i : Nat) : Prop :=
  IsPair h TI (.ref i1) (.ref i2) ∧ h.IsTupleIter i1 l1 i ∧ h.IsTupleIter i2 l2 i ∧ ((IsZip h z TI TO .none ∧ ∃ a b, IsPair h TO a b) ∨ ∃ T0 f oT, ZipF h z TI TO T0 f ∧ h.get? T0 = some oT)
theorem ZS.ty {z TI TO i1 i2 l1 l2 : Addr} {i : Nat} {h : Heap} (st : ZS h z TI TO i1 i2 l1 l2 i) : ∃ o, h.get? z = some o ∧ o.cls = .type "zip" := by
  obtain ⟨_, _, _, ⟨hz, _⟩ | ⟨_, _, _, hz, _⟩⟩ := st
  · exact ⟨_, hz, rfl⟩
  · exact ⟨_, hz, rfl⟩
theorem zip_item {z TI TO i1 i2 l1 l2 : Addr} {i : Nat} {xs ys : Array Value} {x y : Value} {Q : Option Value → Shared → Prop} (D : ZipApart z TI TO i1 i2 l1 l2) (st : ZS s.heap z TI TO i1 i2 l1 l2 i)
    (hl1 : s.heap.IsTuple l1 xs) (hl2 : s.heap.IsTuple l2 ys) (hx : xs[i]? = some x) (hy : ys[i]? = some y)
    (hQ : ∀ h', ZS h' z TI TO i1 i2 l1 l2 (i + 1) → IsPair h' s.heap.objs.size x y → h'.objs.size = s.heap.objs.size + 1 →
      (∀ c o, c ≠ z → c ≠ TO → c ≠ i1 → c ≠ i2 → s.heap.get? c = some o → h'.get? c = some o) → Q (some (.ref s.heap.objs.size)) { s with heap := h' }) :
    wpAny (model prog w) A (pyNext (.ref z)) Q E s := by
  have hTy : s.TypeIs (.ref z) "zip" := st.ty
  obtain ⟨hTI, h1, h2, ⟨hz, a, b, hTO⟩ | ⟨T0, f, oT, hz, hT0⟩⟩ := st
  · refine pyNext_zipT_item D hz hTI hTO h1 h2 hl1 hl2 hx hy fun h' z' TO' h1' h2' hT hsz hk => ?_
    exact hQ h' ⟨hk _ _ D.TIz D.TITO D.TIi1 D.TIi2 hTI, h1', h2', .inr ⟨s.heap.objs.size, false, _, z', hT⟩⟩ hT hsz hk
  · unfold pyNext
    refine wpAny_bind (wpAny_attempt (wpAny_callSpecial?_slot (name := Str.ofString "__next__") hTy F.slot_zip_next (wpAny_call_entry F.slot_zip_next hTy F.entry_zip_next
      (zipT_busy_item D hz hT0 hTI h1 h2 hl1 hl2 hx hy fun h' z' h1' h2' hT hsz hk => wpAny_pure ?_) (F.args_zip_next_1 _))))
    have h0 : T0 ≠ z ∨ T0 = z := (Decidable.em (T0 = z)).symm
    have alive : ∃ o', h'.get? T0 = some o' := by
      by_cases e1 : T0 = z
      · exact ⟨_, by rw [e1]; exact z'⟩
      · by_cases e2 : T0 = i1
        · obtain ⟨o, ho, _⟩ := h1'
          exact ⟨o, by rw [e2]; exact ho⟩
        · by_cases e3 : T0 = i2
          · obtain ⟨o, ho, _⟩ := h2'
            exact ⟨o, by rw [e3]; exact ho⟩
          · exact ⟨_, hk _ _ e1 e2 e3 hT0⟩
    obtain ⟨o', ho'⟩ := alive
    exact hQ h' ⟨hk _ _ D.TIz D.TIi1 D.TIi2 hTI, h1', h2', .inr ⟨T0, true, o', z', ho'⟩⟩ hT hsz fun c o c1 _ c3 c4 e => hk c o c1 c3 c4 e
theorem zip_done {z TI TO i1 i2 l1 l2 : Addr} {i : Nat} {xs ys : Array Value} {Q : Option Value → Shared → Prop} (hh : A.handled = none) (D : ZipApart z TI TO i1 i2 l1 l2) (st : ZS s.heap z TI TO i1 i2 l1 l2 i)
    (hl1 : s.heap.IsTuple l1 xs) (hl2 : s.heap.IsTuple l2 ys) (hend : xs[i]? = none)
    (hQ : ∀ h', (∀ c o, c ≠ z → c ≠ TO → c ≠ i1 → c ≠ i2 → s.heap.get? c = some o → h'.get? c = some o) → Q none { s with heap := h' }) :
    wpAny (model prog w) A (pyNext (.ref z)) Q E s := by
  have hTy : s.TypeIs (.ref z) "zip" := st.ty
  obtain ⟨hTI, h1, h2, ⟨hz, a, b, hTO⟩ | ⟨T0, f, oT, hz, hT0⟩⟩ := st
  · exact pyNext_zipT_end hh D hz hTI hTO h1 h2 hl1 hl2 (.inl hend) hQ
  · unfold pyNext
    refine wpAny_bind (wpAny_attempt (wpAny_callSpecial?_slot (name := Str.ofString "__next__") hTy F.slot_zip_next (wpAny_call_entry F.slot_zip_next hTy F.entry_zip_next
      (zipT_busy_end hh D hz hT0 hTI h1 hl1 hend fun h' e hk he => ?_) (F.args_zip_next_1 _))))
    obtain ⟨o, ho, hc⟩ := he
    refine wpAny_bind (wpAny_isInstance (T := "StopIteration") (b := true) ⟨o, ho, hc⟩ isSubtype_stop ?_)
    exact wpAny_pure (hQ _ fun c o c1 _ c3 _ e => hk c o c1 c3 e)
/-- the pairs that were made, each apart -/
structure Pairs (xs ys : Array Value) (lo : Addr) (h : Heap) (as : List Addr) : Prop where
  rise : as.Pairwise (· < ·)
  above : ∀ a ∈ as, lo ≤ a
  pairs : ∀ (j : Nat) (a : Addr), as[j]? = some a → ∃ x y, xs[j]? = some x ∧ ys[j]? = some y ∧ IsPair h a x y
theorem ZS.keep {z TI TO i1 i2 l1 l2 : Addr} {i : Nat} {h h' : Heap} {S : Addr} (st : ZS h z TI TO i1 i2 l1 l2 i) (hS : S ≠ z ∧ S ≠ TI ∧ S ≠ TO ∧ S ≠ i1 ∧ S ≠ i2) (hk : ∀ b o, b ≠ S → h.get? b = some o → h'.get? b = some o) (hSl : ∃ o, h'.get? S = some o) : ZS h' z TI TO i1 i2 l1 l2 i := by
  obtain ⟨n1, n2, n3, n4, n5⟩ := hS
  obtain ⟨hTI, h1, h2, q⟩ := st
  refine ⟨hk _ _ n2.symm hTI, h1.at fun o e => hk _ o n4.symm e, h2.at fun o e => hk _ o n5.symm e, ?_⟩
  rcases q with ⟨hz, a, b, hTO⟩ | ⟨T0, f, oT, hz, hT0⟩
  · exact .inl ⟨hk _ _ n1.symm hz, a, b, hk _ _ n3.symm hTO⟩
  · refine .inr ⟨T0, f, ?_⟩
    by_cases e : T0 = S
    · obtain ⟨o, ho⟩ := hSl
      exact ⟨o, hk _ _ n1.symm hz, by rw [e]; exact ho⟩
    · exact ⟨oT, hk _ _ n1.symm hz, hk _ _ e hT0⟩
theorem zip_loop {z TI TO i1 i2 l1 l2 S : Addr} {xs ys : Array Value} {R : Result → Shared → Prop} {lo : Addr} {h0 : Heap} (hh : A.handled = none) (D : ZipApart z TI TO i1 i2 l1 l2) (hS : S ≠ z ∧ S ≠ TI ∧ S ≠ TO ∧ S ≠ i1 ∧ S ≠ i2) (hSl : S ≠ l1 ∧ S ≠ l2) (hxy : xs.size = ys.size) (hn : xs.size ≤ sizeLine) (res : Value)
    (hlo : S < lo) (hfz : z < lo ∧ TO < lo ∧ i1 < lo ∧ i2 < lo)
    (hR : ∀ h' acc c as, (∀ b o, b ≠ S → b ≠ z → b ≠ TO → b ≠ i1 → b ≠ i2 → h0.get? b = some o → h'.get? b = some o) → h'.get? S = some { cls := .type "list", dict := none, data := .seq acc c, slots := #[] } → as.length = xs.size → Pairs xs ys lo h' as → acc.toList = as.map Value.ref → R (.ok (.ret res)) { s with heap := h' }) :
    ∀ (k i : Nat) (h : Heap) (c : Nat) (acc : Array Value) (as : List Addr), xs.size - i = k → i ≤ xs.size → ZS h z TI TO i1 i2 l1 l2 i → h.IsTuple l1 xs → h.IsTuple l2 ys → lo ≤ h.objs.size →
      (∀ b o, b ≠ S → b ≠ z → b ≠ TO → b ≠ i1 → b ≠ i2 → h0.get? b = some o → h.get? b = some o) → h.get? S = some { cls := .type "list", dict := none, data := .seq acc c, slots := #[] } → acc.toList = as.map Value.ref → as.length = i → Pairs xs ys lo h as →
      codeAny (model prog w) A (.builtin "list.extend.loop" ⟨[.ref S, .ref z, res], []⟩) R { s with heap := h } := by
  obtain ⟨n1, n2, n3, n4, n5⟩ := id hS
  intro k
  induction k with
  | zero =>
    intro i h c acc as hk hi st hl1 hl2 hls hkeep hSg hacc hal hG
    refine codeAny_builtin F.entry_extend_loop ?_
    rw [Around.under_plainId F.plain_extend_loop _]
    show wpAny _ A.in1 (pyNext (.ref z) >>= _) _ _ _
    refine wpAny_bind (zip_done (s := { s with heap := h }) (A := A.in1) hh D st hl1 hl2 (by simp; omega) fun h' he => ?_)
    have off : ∀ a ∈ as, a ≠ z ∧ a ≠ TO ∧ a ≠ i1 ∧ a ≠ i2 := fun a ha => by
      have d := hG.above a ha
      exact ⟨Nat.ne_of_gt (Nat.lt_of_lt_of_le hfz.1 d), Nat.ne_of_gt (Nat.lt_of_lt_of_le hfz.2.1 d), Nat.ne_of_gt (Nat.lt_of_lt_of_le hfz.2.2.1 d), Nat.ne_of_gt (Nat.lt_of_lt_of_le hfz.2.2.2 d)⟩
    refine wpAny_pure (hR h' acc c as (fun b o b1 b2 b3 b4 b5 e => he b o b2 b3 b4 b5 (hkeep b o b1 b2 b3 b4 b5 e)) (he S _ n1 n3 n4 n5 hSg) (by omega) ⟨hG.rise, hG.above, fun j a hj => ?_⟩ hacc)
    obtain ⟨x, y, e1, e2, e3⟩ := hG.pairs j a hj
    obtain ⟨q1, q2, q3, q4⟩ := off a (List.mem_of_getElem? hj)
    exact ⟨x, y, e1, e2, he a _ q1 q2 q3 q4 e3⟩
  | succ k ih =>
    intro i h c acc as hk hi st hl1 hl2 hls hkeep hSg hacc hal hG
    have hlt : i < xs.size := by omega
    have hsz : acc.size = i := by rw [← Array.length_toList, hacc, List.length_map, hal]
    refine codeAny_builtin F.entry_extend_loop ?_
    rw [Around.under_plainId F.plain_extend_loop _]
    show wpAny _ A.in1 (pyNext (.ref z) >>= _) _ _ _
    refine wpAny_bind (zip_item (s := { s with heap := h }) (A := A.in1) D st hl1 hl2 (Array.getElem?_eq_getElem hlt) (Array.getElem?_eq_getElem (by omega : i < ys.size)) fun h' st' hT hz1 hkp => ?_)
    dsimp only at hT hz1 hkp ⊢
    have hS' := hkp S _ n1 n3 n4 n5 hSg
    have up : ∀ b o, b ≠ S → h'.get? b = some o → (h'.update S (Obj.mapSeq (·.push (Value.ref h.objs.size)))).get? b = some o := fun b o hb e => (Heap.get?_update_other _ _ (Ne.symm hb)).trans e
    have hSlt : S < h.objs.size := Heap.lt_size hSg
    have hself := Heap.get?_update_self (Obj.mapSeq (·.push (Value.ref h.objs.size))) hS' rfl
    show wpAny _ A.in1 (updateSeq S (·.push (Value.ref h.objs.size)) >>= _) _ _ _
    refine wpAny_bind ?_
    have hTn : h.objs.size ≠ S := Nat.ne_of_gt hSlt
    have ls1 : l1 ≠ z ∧ l1 ≠ TO ∧ l1 ≠ i1 ∧ l1 ≠ i2 := ⟨D.l1z, D.l1TO, D.l1i1, D.l1i2⟩
    have ls2 : l2 ≠ z ∧ l2 ≠ TO ∧ l2 ≠ i1 ∧ l2 ≠ i2 := ⟨D.l2z, D.l2TO, D.l2i1, D.l2i2⟩
    have both : ∀ b o, b ≠ S → b ≠ z → b ≠ TO → b ≠ i1 → b ≠ i2 → h.get? b = some o → (h'.update S (Obj.mapSeq (·.push (Value.ref h.objs.size)))).get? b = some o := fun b o b1 b2 b3 b4 b5 e => up b o b1 (hkp b o b2 b3 b4 b5 e)
    have tup : ∀ {l : Addr} {us : Array Value}, l ≠ S → l ≠ z ∧ l ≠ TO ∧ l ≠ i1 ∧ l ≠ i2 → h.IsTuple l us → (h'.update S (Obj.mapSeq (·.push (Value.ref h.objs.size)))).IsTuple l us := fun n q ⟨o, ho, r⟩ => ⟨o, both _ o n q.1 q.2.1 q.2.2.1 q.2.2.2 ho, r⟩
    refine wpAny_updateSeq hS' rfl (wpAny_pure ⟨plainId_quiet F.plain_extend_loop _, ih (i + 1) _ _ (acc.push (Value.ref h.objs.size)) (as ++ [h.objs.size]) (by omega) hlt (st'.keep hS up ⟨_, hself⟩) (tup hSl.1.symm ls1 hl1) (tup hSl.2.symm ls2 hl2) ?_
      (fun b o b1 b2 b3 b4 b5 e => both b o b1 b2 b3 b4 b5 (hkeep b o b1 b2 b3 b4 b5 e)) hself (by rw [Array.toList_push, hacc, List.map_append]; rfl) (by rw [List.length_append, hal]; rfl) ⟨?_, ?_, ?_⟩⟩) (by rw [hsz]; omega) (by show (acc.push (Value.ref h.objs.size)).size ≤ sizeLine + 1; rw [Array.size_push, hsz]; omega)
    · refine Nat.le_trans hls ?_
      have e : (h'.update S (Obj.mapSeq (·.push (Value.ref h.objs.size)))).get? h.objs.size = _ := up _ _ hTn hT
      exact Nat.le_of_lt (Heap.lt_size e)
    · refine List.pairwise_append.mpr ⟨hG.rise, List.pairwise_singleton _ _, fun a ha b hb => ?_⟩
      rw [List.mem_singleton.mp hb]
      obtain ⟨j, hj⟩ := List.getElem?_of_mem ha
      obtain ⟨_, _, _, _, e3⟩ := hG.pairs j a hj
      exact Heap.lt_size e3
    · intro a ha
      rcases List.mem_append.mp ha with ha | ha
      · exact hG.above a ha
      · rw [List.mem_singleton.mp ha]
        exact hls
    · intro j b hj
      rcases Nat.lt_trichotomy j as.length with g1 | g1 | g1
      · rw [List.getElem?_append_left g1] at hj
        obtain ⟨x, y, e1, e2, e3⟩ := hG.pairs j b hj
        have d := hG.above b (List.mem_of_getElem? hj)
        exact ⟨x, y, e1, e2, both b _ (Nat.ne_of_gt (Nat.lt_of_lt_of_le hlo d)) (Nat.ne_of_gt (Nat.lt_of_lt_of_le hfz.1 d)) (Nat.ne_of_gt (Nat.lt_of_lt_of_le hfz.2.1 d)) (Nat.ne_of_gt (Nat.lt_of_lt_of_le hfz.2.2.1 d)) (Nat.ne_of_gt (Nat.lt_of_lt_of_le hfz.2.2.2 d)) e3⟩
      · subst g1
        have hb : h.objs.size = b := by simpa using hj
        subst hb
        exact ⟨xs[as.length]'(by omega), ys[as.length]'(by omega), Array.getElem?_eq_getElem _, Array.getElem?_eq_getElem _, by have := up _ _ hTn hT; subst hal; exact this⟩
      · have hnone : (as ++ [h.objs.size])[j]? = none := List.getElem?_eq_none (by rw [List.length_append, List.length_singleton]; omega)
        rw [hnone] at hj
        cases hj
theorem zip_len_none : typeLookup (.type "zip") "__len__" = pure none := am_miss_of_fast (by decide +kernel)
theorem zip_hint_none : typeLookup (.type "zip") "__length_hint__" = pure none := am_miss_of_fast (by decide +kernel)
theorem zip_extend {z TI TO i1 i2 l1 l2 S : Addr} {xs ys : Array Value} {R : Result → Shared → Prop} {lo : Addr} (hh : A.handled = none) (D : ZipApart z TI TO i1 i2 l1 l2) (hS : S ≠ z ∧ S ≠ TI ∧ S ≠ TO ∧ S ≠ i1 ∧ S ≠ i2) (hSl : S ≠ l1 ∧ S ≠ l2) (hxy : xs.size = ys.size) (hn : xs.size ≤ sizeLine) (res : Value)
    (hlo : S < lo) (hfz : z < lo ∧ TO < lo ∧ i1 < lo ∧ i2 < lo) (hle : lo ≤ s.heap.objs.size) (hz : IsZip s.heap z TI TO .none) (st : ZS s.heap z TI TO i1 i2 l1 l2 0) (hl1 : s.heap.IsTuple l1 xs) (hl2 : s.heap.IsTuple l2 ys) (c0 : Nat) (hS0 : s.heap.get? S = some { cls := .type "list", data := .seq #[] c0 })
    (hR : ∀ h' acc c as, (∀ b o, b ≠ S → b ≠ z → b ≠ TO → b ≠ i1 → b ≠ i2 → s.heap.get? b = some o → h'.get? b = some o) → h'.get? S = some { cls := .type "list", dict := none, data := .seq acc c, slots := #[] } → as.length = xs.size → Pairs xs ys lo h' as → acc.toList = as.map Value.ref → R (.ok (.ret res)) { s with heap := h' }) :
    wpAny (model prog w) A.in1 (Builtin.List.listExtendWith (.ref S) (.ref z) res)
      (fun fin s' => match fin with | .done f => R (.ok f) s' | .again c' => c'.quiet = true ∧ codeAny (model prog w) A c' R s') (fun e s' => R (.error e) s') s := by
  have hTy : s.TypeIs (.ref z) "zip" := st.ty
  unfold Builtin.List.listExtendWith
  refine wpAny_bind (wpAny_typeOf (T := "zip") hTy ?_)
  have g1 : Builtin.List.listSameRef (.ref S) (.ref z) = false := by simp [Builtin.List.listSameRef, hS.1]
  have g2 : (Value.type "zip" == Value.type "list") = false := by decide
  have g3 : (Value.type "zip" == Value.type "tuple") = false := by decide
  simp only [g1, g2, g3, Bool.or_false, Bool.false_eq_true, if_false]
  refine wpAny_bind (wpAny_pyIter_zip hz ?_)
  refine wpAny_bind (wpAny_holding ?_)
  unfold Builtin.List.listLengthHint
  refine wpAny_bind (wpAny_specialOf hTy zip_len_none ?_)
  show wpAny _ _ (specialOf (Value.ref z) (Str.ofString "__length_hint__") >>= _) _ _ _
  refine wpAny_bind (wpAny_specialOf hTy zip_hint_none ?_)
  refine wpAny_pure ?_
  show wpAny _ _ (rule "list.extend.makes-room" >>= fun _ => Builtin.List.listTouch (.ref S) >>= fun _ => again (.builtin "list.extend.loop" ⟨[.ref S, .ref z, res], []⟩)) _ _ _
  refine wpAny_bind (wpAny_rule ?_)
  refine wpAny_bind ?_
  show wpAny _ _ (updateSeq S (·.push .none) >>= fun _ => updateSeq S (·.pop)) _ _ _
  refine wpAny_bind (wpAny_updateSeq hS0 rfl ?_)
  have hS2 := Heap.get?_update_self (Obj.mapSeq (·.push Value.none)) hS0 rfl
  refine wpAny_updateSeq (hz := by seq_fits) hS2 rfl ?_
  have hS3 := Heap.get?_update_self (Obj.mapSeq (·.pop)) hS2 rfl
  have oth : ∀ b o, b ≠ S → s.heap.get? b = some o → ((s.heap.update S (Obj.mapSeq (·.push Value.none))).update S (Obj.mapSeq (·.pop))).get? b = some o := fun b o hb e => (Heap.get?_update_other _ _ (Ne.symm hb)).trans ((Heap.get?_update_other _ _ (Ne.symm hb)).trans e)
  refine wpAny_pure ⟨plainId_quiet F.plain_extend_loop _, zip_loop (s := s) (h0 := s.heap) (lo := lo) hh D hS hSl hxy hn res hlo hfz hR xs.size 0 _ _ #[] [] (Nat.sub_zero _) (Nat.zero_le _) (st.keep hS oth ⟨_, hS3⟩) ?_ ?_ ?_ (fun b o b1 _ _ _ _ e => oth b o b1 e) hS3 rfl rfl ⟨List.Pairwise.nil, (fun _ ha => nomatch ha), fun j a hj => by simp at hj⟩⟩
  · obtain ⟨o, ho, r⟩ := hl1
    exact ⟨o, oth _ _ hSl.1.symm ho, r⟩
  · obtain ⟨o, ho, r⟩ := hl2
    exact ⟨o, oth _ _ hSl.2.symm ho, r⟩
  · have e : ((s.heap.update S (Obj.mapSeq (·.push Value.none))).update S (Obj.mapSeq (·.pop))).objs.size = s.heap.objs.size := by
      first
        | rw [Heap.size_update, Heap.size_update]
        | simp [Heap.update]
    rw [e]
    exact hle
/-- list(z) for such a zip -/
theorem zip_list {z TI TO i1 i2 l1 l2 : Addr} {xs ys : Array Value} {Q : Value → Shared → Prop} (hh : A.handled = none) (D : ZipApart z TI TO i1 i2 l1 l2) (hxy : xs.size = ys.size) (hn : xs.size ≤ sizeLine)
    (hfz : z < s.heap.objs.size ∧ TI < s.heap.objs.size ∧ TO < s.heap.objs.size ∧ i1 < s.heap.objs.size ∧ i2 < s.heap.objs.size) (hz : IsZip s.heap z TI TO .none) (st : ZS s.heap z TI TO i1 i2 l1 l2 0) (hl1 : s.heap.IsTuple l1 xs) (hl2 : s.heap.IsTuple l2 ys)
    (hQ : ∀ h' acc c as, (∀ b o, b ≠ z → b ≠ TO → b ≠ i1 → b ≠ i2 → s.heap.get? b = some o → h'.get? b = some o) → h'.get? s.heap.objs.size = some { cls := .type "list", dict := none, data := .seq acc c, slots := #[] } → as.length = xs.size → Pairs xs ys (s.heap.objs.size + 1) h' as → acc.toList = as.map Value.ref → Q (.ref s.heap.objs.size) { s with heap := h' }) :
    wpAny (model prog w) A (call (.type "list") [.ref z]) Q E s := by
  refine callType_codes (Q₁ := fun obj s1 => obj = .ref s.heap.objs.size ∧ s1 = { s with heap := s.heap.push { cls := .type "list", data := .seq #[] } }) F.called_list (F.typeCall_list_1 _) F.entry_list_init (code_list_new _ ⟨rfl, rfl⟩) fun obj s1 hs1 => ?_
  obtain ⟨rfl, rfl⟩ := hs1
  have hS : (s.heap.push { cls := .type "list", data := .seq #[] }).get? s.heap.objs.size = some { cls := .type "list", data := .seq #[] } := Heap.get?_push_size _ rfl
  refine ⟨⟨_, hS, rfl⟩, F.args_list_init_2 _ _, ?_⟩
  show wpAny _ _ (do let old ← Builtin.List.listItems (.ref s.heap.objs.size); Builtin.List.listUpdate (.ref s.heap.objs.size) (fun _ => #[]); letGo old.toList.reverse; Builtin.List.listExtendWith (.ref s.heap.objs.size) (.ref z) .none) _ _ _
  refine wpAny_bind ?_
  unfold Builtin.List.listItems
  refine wpAny_bind (wpAny_seqItems hS rfl (wpAny_pure ?_))
  show wpAny _ _ (updateSeq s.heap.objs.size (fun _ => #[]) >>= fun _ => letGo (#[] : Array Value).toList.reverse >>= fun _ => Builtin.List.listExtendWith (.ref s.heap.objs.size) (.ref z) .none) _ _ _
  refine wpAny_bind (wpAny_updateSeq hS rfl ?_)
  have hS2 := Heap.get?_update_self (Obj.mapSeq (fun _ => (#[] : Array Value))) hS rfl
  have oth : ∀ b o, s.heap.get? b = some o → ((s.heap.push { cls := .type "list", data := .seq #[] }).update s.heap.objs.size (Obj.mapSeq (fun _ => (#[] : Array Value)))).get? b = some o :=
    fun b o e => (Heap.get?_update_other _ _ (Nat.ne_of_gt (Heap.lt_size e))).trans (Heap.get?_push_of_some _ e)
  refine wpAny_bind (wpAny_letGo ?_)
  have hsz2 : ((s.heap.push { cls := .type "list", data := .seq #[] }).update s.heap.objs.size (Obj.mapSeq (fun _ => (#[] : Array Value)))).objs.size = s.heap.objs.size + 1 := by rw [Heap.size_update, Heap.size_push]
  generalize hH2 : (s.heap.push { cls := .type "list", data := .seq #[] }).update s.heap.objs.size (Obj.mapSeq (fun _ => (#[] : Array Value))) = H2 at hS2 oth hsz2 ⊢
  have lt1 : s.heap.objs.size < s.heap.objs.size + 1 := Nat.lt_succ_self _
  have hl1' : l1 < s.heap.objs.size := by
    obtain ⟨o, ho, _⟩ := hl1
    exact Heap.lt_size ho
  have hl2' : l2 < s.heap.objs.size := by
    obtain ⟨o, ho, _⟩ := hl2
    exact Heap.lt_size ho
  obtain ⟨f1, f2, f3, f4, f5⟩ := hfz
  have nS : s.heap.objs.size ≠ z ∧ s.heap.objs.size ≠ TI ∧ s.heap.objs.size ≠ TO ∧ s.heap.objs.size ≠ i1 ∧ s.heap.objs.size ≠ i2 := ⟨Nat.ne_of_gt f1, Nat.ne_of_gt f2, Nat.ne_of_gt f3, Nat.ne_of_gt f4, Nat.ne_of_gt f5⟩
  refine zip_extend (s := { s with heap := H2 }) (A := A.in1) (lo := s.heap.objs.size + 1) (l1 := l1) (l2 := l2) (xs := xs) (ys := ys) hh D nS ⟨Nat.ne_of_gt hl1', Nat.ne_of_gt hl2'⟩ hxy hn .none lt1 ⟨Nat.lt_succ_of_lt f1, Nat.lt_succ_of_lt f3, Nat.lt_succ_of_lt f4, Nat.lt_succ_of_lt f5⟩ (Nat.le_of_eq hsz2.symm) (oth _ _ hz) (st.keep nS (fun b o _ e => oth b o e) ⟨_, hS2⟩) ?_ ?_ _ hS2 ?_
  · obtain ⟨o, ho, r⟩ := hl1
    exact ⟨o, oth _ _ ho, r⟩
  · obtain ⟨o, ho, r⟩ := hl2
    exact ⟨o, oth _ _ ho, r⟩
  · intro h' acc c as hk hSg hl hP hacc
    exact ⟨rfl, hQ h' acc c as (fun b o b2 b3 b4 b5 e => hk b o (Nat.ne_of_lt (Heap.lt_size e)) b2 b3 b4 b5 (oth b o e)) hSg hl hP hacc⟩
end
end Gm
/-! list(zip(xs, ys)) of two tuples, as a rule. -/
namespace Gm
open PySem PySem.Spec PyProof.Rows L2 RZ
/-- pairs told at their addresses -/
def putP (H : Hp) : List Addr → List (V × V) → Hp
  | a :: as, p :: ps => upd (putP H as ps) a (.tup [p.1, p.2])
  | _, _ => H
theorem putP_off {H : Hp} {b : Addr} : ∀ {as : List Addr} {ps : List (V × V)}, b ∉ as → putP H as ps b = H b
  | [], _, _ => by
    unfold putP
    rfl
  | _ :: _, [], _ => rfl
  | a :: as, p :: ps, h => by
    show upd (putP H as ps) a (.tup [p.1, p.2]) b = H b
    rw [upd_ne (fun e => h (by rw [e]; exact List.mem_cons_self ..)), putP_off fun z => h (List.mem_cons_of_mem _ z)]
theorem putP_at {H : Hp} : ∀ {as : List Addr} {ps : List (V × V)} {j : Nat} {a : Addr} {p : V × V}, as.Nodup → as[j]? = some a → ps[j]? = some p → putP H as ps a = some (.tup [p.1, p.2])
  | b :: as, q :: ps, 0, a, p, _, e1, e2 => by
    cases Option.some.inj e1
    cases Option.some.inj e2
    exact upd_same
  | b :: as, q :: ps, j + 1, a, p, nd, e1, e2 => by
    have e1' : as[j]? = some a := e1
    have nd' := List.nodup_cons.mp nd
    show upd (putP H as ps) b (.tup [q.1, q.2]) a = _
    rw [upd_ne (fun e => nd'.1 (by rw [← e]; exact List.mem_of_getElem? e1'))]
    exact putP_at nd'.2 e1' e2
def tListZip (K : Frag) (tas : TA) : TE := fun σ H Q => tas σ H fun vs H1 => ∃ a b xs ys, vs = [.ref a, .ref b] ∧ SqT K H1 a xs ∧ SqT K H1 b ys ∧ xs.length = ys.length ∧
  ∀ (H' : Hp) (p : Addr) (ts : List Addr), Same H1 H' → H1 p = none → p ∉ ts → H' p = some (.lst (ts.map V.ref)) → ts.length = xs.length → (∀ (j : Nat) (t : Addr), ts[j]? = some t → ∃ x y, xs[j]? = some x ∧ ys[j]? = some y ∧ H' t = some (.tup [x, y])) → Q (.ref p) H'
section
variable {X : Cx} {pn : List (Addr × Obj)} {σ : L2.St} {H : Hp} {s : Shared}
theorem refs_vals : ∀ as : List Addr, Vals (as.map V.ref) (as.map Value.ref)
  | [] => .nil
  | _ :: as => .cons rfl (refs_vals as)
theorem pairs_laid {h' : Heap} {xs ys : List V} {us ws : List Value} {acc : Array Value} {c : Nat} {as : List Addr} {S lo : Addr} (I : Inv X pn σ H s) (hz : xs.length ≤ sizeLine) (hxy : xs.length = ys.length) (rx : Vals xs us) (ry : Vals ys ws)
    (hk : ∀ b o, s.heap.get? b = some o → h'.get? b = some o) (hSz : s.heap.objs.size ≤ S) (hlo : S < lo) (hS : h'.get? S = some { cls := .type "list", dict := none, data := .seq acc c, slots := #[] }) (hl : as.length = xs.length) (hP : Pairs us.toArray ws.toArray lo h' as) (hacc : acc.toList = as.map Value.ref) :
    ∃ H' : Hp, Same H H' ∧ H S = none ∧ S ∉ as ∧ H' S = some (.lst (as.map V.ref)) ∧ (∀ (j : Nat) (t : Addr), as[j]? = some t → ∃ x y, xs[j]? = some x ∧ ys[j]? = some y ∧ H' t = some (.tup [x, y])) ∧ Inv X pn σ H' { s with heap := h' } := by
  have hSn : S ∉ as := fun z => absurd (hP.above _ z) (Nat.not_le_of_gt hlo)
  have nd : as.Nodup := List.Pairwise.imp (fun {a b} (h : a < b) => Nat.ne_of_lt h) hP.rise
  have big : ∀ t ∈ as, s.heap.objs.size ≤ t := fun t ht => Nat.le_trans hSz (Nat.le_of_lt (Nat.lt_of_lt_of_le hlo (hP.above t ht)))
  have new : ∀ t ∈ as, H t = none := fun t ht => I.hok.fresh (big t ht)
  have newS : H S = none := I.hok.fresh hSz
  have items : ∀ {j : Nat} {t : Addr}, as[j]? = some t → ∃ x y, xs[j]? = some x ∧ ys[j]? = some y ∧ (xs.zip ys)[j]? = some (x, y) := fun {j t} e => by
    have hj : j < as.length := (List.getElem?_eq_some_iff.mp e).1
    refine ⟨xs[j]'(by omega), ys[j]'(by omega), List.getElem?_eq_getElem _, List.getElem?_eq_getElem _, ?_⟩
    rw [List.getElem?_zip_eq_some]
    exact ⟨List.getElem?_eq_getElem _, List.getElem?_eq_getElem _⟩
  have off : ∀ b, b ∉ as → b ≠ S → putP (upd H S (.lst (as.map V.ref))) as (xs.zip ys) b = H b := fun b h1 h2 => by rw [putP_off h1, upd_ne h2]
  have low : ∀ b o, s.heap.get? b = some o → b ∉ as ∧ b ≠ S := fun b o e => ⟨fun z => absurd (Heap.lt_size e) (Nat.not_lt.mpr (big b z)), fun z => absurd (Heap.lt_size e) (Nat.not_lt.mpr (by rw [z]; exact hSz))⟩
  have kp : ∀ b u, H b = some u → (putP (upd H S (.lst (as.map V.ref))) as (xs.zip ys)) b = some u := fun b u e => by
    rw [off b (fun z => by rw [new b z] at e; cases e) (fun z => by rw [z, newS] at e; cases e)]
    exact e
  have eS : putP (upd H S (.lst (as.map V.ref))) as (xs.zip ys) S = some (.lst (as.map V.ref)) := by rw [putP_off hSn, upd_same]
  refine ⟨putP (upd H S (.lst (as.map V.ref))) as (xs.zip ys), kp, newS, hSn, eS, fun j t e => ?_, ?_⟩
  · obtain ⟨x, y, e1, e2, e3⟩ := items e
    exact ⟨x, y, e1, e2, putP_at nd e e3⟩
  refine I.call' (ch := []) rfl ⟨fun b o q _ _ _ => hk b o q, fun b o q _ _ _ => ⟨o.slots, hk b o q⟩, fun b o q n _ => ?_, fun b o q _ => ⟨o, hk b o q⟩, fun b xs q => kp b _ q, fun b o u q => kp b _ q, fun b ps q => ⟨#[], by rw [kp b _ q]; simp⟩⟩ (fun b u q => ?_) I.bare fun b z => by simp at z
  · obtain ⟨z1, z2⟩ := low b o q
    rw [off b z1 z2]
    exact n
  · by_cases hb : b ∈ as
    · obtain ⟨j, ej⟩ := List.getElem?_of_mem hb
      obtain ⟨x, y, e1, e2, e3⟩ := items ej
      rw [putP_at nd ej e3] at q
      cases q
      obtain ⟨x', y', f1, f2, f3⟩ := hP.pairs j b ej
      obtain ⟨u1, g1, r1⟩ := rx.get e1
      obtain ⟨u2, g2, r2⟩ := ry.get e2
      have f1' : us[j]? = some x' := by simpa using f1
      have f2' : ws[j]? = some y' := by simpa using f2
      rw [g1] at f1'
      rw [g2] at f2'
      cases f1'
      cases f2'
      exact ⟨by show 2 ≤ sizeLine; decide, [_, _], .cons r1 (.cons r2 .nil), ⟨_, f3, rfl, _, rfl⟩⟩
    · by_cases hb2 : b = S
      · rw [hb2] at q ⊢
        rw [eS] at q
        cases q
        refine ⟨by rw [List.length_map]; omega, acc.toList, c, by rw [hacc]; exact refs_vals as, ?_⟩
        rw [Array.toArray_toList]
        exact hS
      · rw [off b hb hb2] at q
        exact (I.hok b u q).stay (fun d v _ y => hk d v y) (fun d y => kp d _ y) fun d xs y => kp d _ y
end
section
variable {X : Cx} {e e2 : Expr} {tas : TA} {p q pos zpos : Pos}
/-- list(zip(e, e2)) -/
theorem pe_listZip (hc : X.calm = true) (hg : Gl X "list") (hm : X.mg "list" = none) (hgz : Gl X "zip") (hmz : X.mg "zip" = none) (ha : PA X [e, e2] tas)
    (hs : starEach [.Call (.Name "zip" q) [e, e2] [] zpos] X.env = (false, eval (.Call (.Name "zip" q) [e, e2] [] zpos) X.env) :: starEach [] X.env := by rfl)
    (hz : starEach [e, e2] X.env = (false, eval e X.env) :: starEach [e2] X.env := by rfl) (hpl : (backTo zpos (starEach [e2] X.env)).any (·.1) = false := by rfl) :
    PE X (.Call (.Name "list" p) [.Call (.Name "zip" q) [e, e2] [] zpos] [] pos) (tListZip X.K tas) := by
  refine ⟨fun pn sh σ H Q I h => ?_⟩
  have hv : bootBuiltins "list" = some (.type "list") := by decide +kernel
  refine wpAny_Call_Name_kw (ld_blt I hg hm hv ?_)
  refine PyProof.Rows.callWith_type1 ?_ hs rfl
  rw [hs]
  show wpAny _ _ (spliced ((false, eval (.Call (.Name "zip" q) [e, e2] [] zpos) X.env) :: backTo pos (starEach [] X.env))) _ _ sh
  refine Calls.spliced_cons ?_
  refine Call_ (ld_blt I hgz hmz PyProof.Rows.boot_zip (PyProof.Rows.callWith_type1 (thn (ha.run zpos pn sh σ H _ I h) fun argv sA ⟨vs, H1, J, rel, post⟩ => ?_) hz hpl))
  obtain ⟨a, b, xs, ys, ex, hqx, hqy, hxy, post⟩ := post
  subst ex
  cases rel with
  | cons rel1 rr =>
    cases rr with
    | cons rel2 rr =>
      cases rr
      cases rel1
      cases rel2
      obtain ⟨us, rvx, p1, hlx⟩ := J.tuple hqx
      obtain ⟨ws, rvy, p2, hly⟩ := J.tuple hqy
      obtain ⟨o1, ho1, _⟩ := id p1
      obtain ⟨o2, ho2, _⟩ := id p2
      refine call_zipT (show sA.heap.IsTuple a us.toArray from p1) (show sA.heap.IsTuple b ws.toArray from p2) fun h' hzz hTI hTO h1 h2 hsz hk => ?_
      refine Calls.spliced_nil ?_
      have lx := rvx.length
      have ly := rvy.length
      have ap := PySem.W.ktu_apart sA.heap.objs.size a b (Heap.lt_size ho1) (Heap.lt_size ho2)
      have low : ∀ c o, sA.heap.get? c = some o → c ≠ sA.heap.objs.size + 4 ∧ c ≠ sA.heap.objs.size + 3 ∧ c ≠ sA.heap.objs.size ∧ c ≠ sA.heap.objs.size + 1 := fun c o e => by
        have d : c < sA.heap.objs.size := Heap.lt_size e
        exact ⟨Nat.ne_of_lt (Nat.lt_add_right 4 d), Nat.ne_of_lt (Nat.lt_add_right 3 d), Nat.ne_of_lt d, Nat.ne_of_lt (Nat.lt_add_right 1 d)⟩
      have five : ∀ k : Nat, k < 5 → sA.heap.objs.size + k < h'.objs.size := fun k hk5 => by
        rw [hsz]
        exact Nat.add_lt_add_left hk5 _
      refine zip_list (s := { sA with heap := h' }) (xs := us.toArray) (ys := ws.toArray) (J.ok.hd hc) ap (by simp; omega) (by rw [List.size_toArray, ← lx]; exact hlx) ⟨five 4 (by decide), five 2 (by decide), five 3 (by decide), five 0 (by decide), five 1 (by decide)⟩ hzz ⟨hTI, h1, h2, .inl ⟨hzz, _, _, hTO⟩⟩ ?_ ?_ fun h3 acc c as hk3 hS3 hl3 hP3 hacc3 => ?_
      · exact (show sA.heap.IsTuple a us.toArray from p1).imp fun o r => ⟨hk _ _ r.1, r.2⟩
      · exact (show sA.heap.IsTuple b ws.toArray from p2).imp fun o r => ⟨hk _ _ r.1, r.2⟩
      · have hk4 : ∀ b o, sA.heap.get? b = some o → h3.get? b = some o := fun b o e => by
          obtain ⟨q1, q2, q3, q4⟩ := low b o e
          exact hk3 b o q1 q2 q3 q4 (hk b o e)
        obtain ⟨H', k1, k2, k3, k4, k5, J3⟩ := pairs_laid (S := h'.objs.size) (lo := h'.objs.size + 1) J hlx hxy rvx rvy hk4 (Nat.le_of_lt (five 0 (by decide))) (Nat.lt_succ_self _) hS3 (by rw [hl3, List.size_toArray, lx]) hP3 hacc3
        exact ⟨.ref h'.objs.size, H', J3, rfl, post H' _ as k1 k2 k3 k4 (by rw [hl3, List.size_toArray, lx]) k5⟩
end
end Gm
/-! An own class walked, whose __iter__ answers iter of a tuple. -/
namespace Gm
open PySem PySem.Spec PyProof.Rows L2
/-- what a def promises where the heap has at least n places -/
structure FnAt (n : Nat) (P : Program) (w : World) (K : PySem.W.Frag) (mg : Str → Option Value) (base : Heap) (k : Nat) (f : Addr) (fd : FuncData) (ps : List Str) (sp : Sp) : Prop where
  len : ∀ vs H Q E, sp vs H Q E → vs.length = ps.length
  run : ∀ (A : Around) (outer : List Env) (s : Shared) (H : Hp) (args : Args) (us : List Value) (vs : List V) (Q : VK) (E : XK), n ≤ s.heap.objs.size → Room k A → Env0 P w K mg base A outer s H → BindsTo s fd args (ps.zip us) → Vals vs us → sp vs H Q E →
    codeAny (model P w) A (.call (.ref f) args) (CR CX0 outer P w H s Q E) s
theorem fn_at {n : Nat} {P : Program} {w : World} {K : PySem.W.Frag} {mg : Str → Option Value} {base : Heap} {k : Nat} {x qual : Str} {st : Stmt} {f : Addr} {fd : FuncData} {N ps : List Str} {sp : Sp} (F : Fun K x qual st f fd) (S : FnScope N ps (defScope st))
    (len : ∀ vs H Q E, sp vs H Q E → vs.length = ps.length)
    (body : ∀ (cdv : Value) (A : Around) (outer : List Env) (s : Shared) (H : Hp) (vs : List V) (Q : VK) (E : XK), n ≤ s.heap.objs.size → Room k (A.deeper (envOfC qual (defScope st) s.heap.objs.size f cdv)) → sp vs H Q E →
      ∃ t, PSs (cxOf CX0 P w K mg base N qual (defScope st) f cdv A outer s H E) (defBody st) t ∧ t { nx := fun _ H' => Q .non H', rt := Q } (start N vs) H) : FnAt n P w K mg base (k + 1) f fd ps sp := by
  obtain ⟨oc, od, kV, doc, pm, an, cdv, ct, osl, rfl, lk, hcd⟩ := F.ex
  refine ⟨len, fun A outer s H args us vs Q E hn hr e0 hb r q => ?_⟩
  have hl := len _ _ _ _ q
  have XK := e0.mod.kin.keeps fun b o e => (e0.bs b o e).1
  have lim := e0.mod.nolimit.keeps fun b o e => (e0.bs b o e).1
  have kinds : ∀ y ∈ ps.zip us, (defScope st).names.lookup y.1 = some .local ∨ ((defScope st).names.lookup y.1 = some .cell ∧ ((cellsFrom (s.heap.objs.size + 1) (defScope st).names []).lookup y.1).isSome = true) := fun ⟨m, v⟩ hy => (S.par m (List.of_mem_zip hy).1).imp id fun c => ⟨c, PySem.W.cellsFrom_some _ _ _ (.inl c)⟩
  refine codeAny_call_function hr.depth (XK _ _ lk) rfl S.co S.gen rfl (PySem.W.codeRec_of XK hcd) (hb _ _ _ _ ?_)
  refine wpAny_newFunctionEnv_cells S.kind kinds fun env he s1 xc => ?_
  subst he
  refine ⟨lim.keeps xc.toInCall.keep, codeAny_func ?_⟩
  obtain ⟨t, ht, hq⟩ := body cdv A outer s H vs Q E hn (hr.deeper _) q
  have I0 := inv_start (CX := CX0) (E := E) S hr.hd e0 hl r xc
  refine wpAny_mono (ht.run [] s1 (start N vs) H _ I0 hq) (fun fl s' z => ?_) fun e s' z => z
  match fl, z with
  | .ret u, z =>
    obtain ⟨v, σ', H', J, rv, q⟩ := z
    exact ⟨v, H', J.os, J.bare, J.base, J.hok, rv, q⟩
  | .next, z =>
    obtain ⟨σ', H', J, q⟩ := z
    exact ⟨V.non, H', J.os, J.bare, J.base, J.hok, rfl, q⟩
  | .brk, z =>
    obtain ⟨_, _, _, q⟩ := z
    exact False.elim q
  | .cont, z =>
    obtain ⟨_, _, _, q⟩ := z
    exact False.elim q
/-! ### iter of a tuple -/
def ItT (l it : Addr) : HO := .ext fun h => h.get? it = some { cls := .type "tuple_iterator", data := .fields #[.ref l, .int 0 0] }
theorem itT_ok {P : Program} {w : World} {H : Hp} {h : Heap} {l it : Addr} (e : h.get? it = some { cls := .type "tuple_iterator", data := .fields #[.ref l, .int 0 0] }) : ObjOk P w H h it (ItT l it) := ⟨e, ⟨_, e⟩, fun h1 h2 q k => k _ q⟩
def rIterT (K : PySem.W.Frag) (n : Nat) : List V → Hp → VK → Prop := fun xs H Q => ∃ (l : Addr) (zs : List V), xs = [.ref l] ∧ SqT K H l zs ∧ ∀ it, H it = none → n ≤ it → Q (.ref it) (upd H it (ItT l it))
section
variable {X : Cx}
theorem call_iterT : CallR X (.builtin "iter") (rIterT X.K X.s_0.heap.objs.size) := by
  intro pn sh σ H xs argv Q I r h
  obtain ⟨l, zs, rfl, hq, q⟩ := h
  obtain ⟨u, rfl, ru⟩ := vals1 r
  cases ru
  obtain ⟨vals, rv, pl, hz⟩ := I.tuple hq
  refine Calls.call_function_entry (by decide +kernel) (by decide +kernel) PySem.W.kdk_entry_iter (PySem.W.kdk_args_iter _) ?_
  unfold Builtin.«iter»
  refine wpAny_bind (m := someArgs "iter" 1 2 _) (wpAny_of_eq (a := [Value.ref l]) (by first | rfl | kernel_rfl!) ?_)
  show wpAny _ _ (pyIter (.ref l) >>= _) _ _ _
  refine wpAny_bind (wpAny_pyIter_tuple (show sh.heap.IsTuple l vals.toArray from pl) ?_)
  refine wpAny_pure ⟨_, rfl, ?_⟩
  exact ⟨.ref sh.heap.objs.size, _, I.laid (t' := sh.toks) (fun b u e => Heap.get?_push_of_some _ e) (Nat.le_refl _) (itT_ok (Heap.get?_push_size _ rfl)), rfl, q _ (I.hok.fresh (Nat.le_refl _)) I.sz⟩
end
theorem drop_upd {H : Hp} {a : Addr} {o : HO} (h : H a = none) : ItX.dropH (upd H a o) a = H := ItX.dropH_upd h
section
variable {X : Cx} {tg e : Expr} {te : TE} {C f : Addr} {fd : FuncData} {ps : List Str} {k : Nat} {sp : Sp}
/-- e, of an own class, walked by what its __iter__ answers: iter of a tuple -/
def iOwnT (K : PySem.W.Frag) (n : Nat) (C : Addr) (sp : Sp) (te : TE) : TI := fun σ H R => te σ H fun x H1 => ∃ a dx fs, x = .ref a ∧ H1 a = some (.ins C dx fs) ∧
  sp [.ref a] H1 (fun v H2 => ∃ it l, v = .ref it ∧ H2 it = some (ItT l it) ∧ n ≤ it ∧ R (Itt K l) (ItX.dropH H2 it)) L2.E0
theorem pi_ownT (hs : PySem.W.findIn X.K (.ref C) "__iter__" = some (some (.ref f))) (hf : PySem.W.isFn X.K (.ref f) = true) (F : FnAt X.s_0.heap.objs.size X.prog X.w X.K X.mg X.base k f fd ps sp) (hr : Room k X.A) (hb : Binds X.K fd ps []) (he : PE X e te) :
    PI X tg e (iOwnT X.K X.s_0.heap.objs.size C sp te) := by
  refine ⟨fun pn sh σ H R I h => ?_⟩
  refine thn (he.run pn sh σ H _ I h) fun u sA ⟨v, H1, J, rel, q⟩ => ?_
  obtain ⟨a, dx, fs, rfl, ha, q⟩ := q
  cases rel
  obtain ⟨od, Ja⟩ := inst_of J ha
  obtain ⟨m, hF⟩ := J.fr
  refine PySem.W.owit_iter hF J.ok.mod.kin Ja hs hf ?_
  have hl := F.len _ _ _ _ q
  have bnd := hb sA [.ref a] J.kIn (by simpa using hl)
  refine wpAny_call (codeAny_mono (F.run X.A X.stack sA H1 ⟨[.ref a], []⟩ [.ref a] [.ref a] _ _ J.sz hr J.env0 (by simpa using bnd) (.cons rfl .nil) q) fun r s' z => ?_)
  match r, z with
  | .error er, z => exact z.elim
  | .ok .next, z => exact False.elim z
  | .ok .brk, z => exact False.elim z
  | .ok .cont, z => exact False.elim z
  | .ok (.ret w), z =>
    obtain ⟨v2, H2, J2, rel2, it, l, rfl, hit, hn, q2⟩ := J.after z
    cases rel2
    have eo := (J2.hok it _ hit).1
    have ty : s'.TypeIs (.ref it) "tuple_iterator" := ⟨_, eo, rfl⟩
    show PySem.W.OwitIt _ _ _ _ (.ref it) s'
    unfold PySem.W.OwitIt
    refine wpAny_specialOf (name := Str.ofString "__next__") ty PySem.F.slot_tuple_iterator_next.lookup ?_
    have hit' := hit
    unfold ItT at hit'
    refine ⟨it, [it], _, _, ItX.dropH H2 it, rfl, ItX.inv_drop J2 hit', turn_tuple l it, ⟨_, eo, rfl, rfl⟩, fun b hb => ?_, q2⟩
    have e : b = it := by simpa using hb
    rw [e]
    exact ItX.inv_fp J2 hit hn
end
end Gm
/-! x == t: an own class with its own ==, and a tuple. -/
namespace Gm
open PySem PySem.Spec PyProof.Rows L2
section
variable {X : Cx} {C f : Addr} {fd : FuncData} {ps : List Str} {CX : CXT} {k : Nat} {sp : Sp} {E : XK}
def rOwnCmpT (K : Frag) (C : Addr) (sp : Sp) (E : XK) : R2 := fun x y H Q => ∃ a b dx fs xs, x = .ref a ∧ y = .ref b ∧ H a = some (.ins C dx fs) ∧ SqT K H b xs ∧ sp [x, y] H Q E
theorem op_ownCmpT (hs : PySem.W.findIn X.K (.ref C) "__eq__" = some (some (.ref f))) (hf : PySem.W.isFn X.K (.ref f) = true) (hnf : PySem.W.notFirst X.K C (.type "tuple") = true)
    (F : FnOk X.prog X.w X.K X.mg X.base CX k f fd ps sp) (hr : Room k X.A) (hb : Binds X.K fd ps []) (hx : Passes CX X E) : OpR X (compareOp .Eq) (rOwnCmpT X.K C sp E) := by
  intro pn sg σ H x y v u Q I rx ry h
  obtain ⟨a, b, dx, fs, xs, rfl, rfl, ha, hq, q⟩ := h
  cases rx
  cases ry
  obtain ⟨od, J⟩ := inst_of I ha
  obtain ⟨vals, rv, pt, _⟩ := I.tuple hq
  obtain ⟨o, ho, hc, _⟩ := id pt
  obtain ⟨m, hF⟩ := I.fr
  show wpAny _ _ (richCompare .Eq (.ref a) (.ref b)) _ _ _
  refine PySem.W.cmp_K (op := .Eq) (tb := .type "tuple") hr.units0 hF I.ok.mod.kin J ?_ hnf hs hf ?_
  · exact hc ▸ (PySem.W.Looks.ld ho).andThen .now
  refine wpAny_mono (run_fn (us := [.ref a, .ref b]) (vs := [.ref a, .ref b]) F hr hb .nil hx I (.cons rfl (.cons rfl .nil)) q) (fun w s' z => ?_) fun _ _ z => z
  obtain ⟨zR, HR, IR, relZ, postZ⟩ := z
  exact SlX.cmpback relZ ⟨zR, HR, IR, relZ, postZ⟩
end
end Gm
/-! c != None, c of an own class that has only its own == -/
namespace Gm
open PySem PySem.Spec PyProof.Rows L2
section
variable {prog : Program} {w : World} {A : Around} {E : Value → Shared → Prop} {s : Shared} {K : PySem.W.Frag} {x C f : Addr} {ox : Obj} {od : Option Obj}
theorem objNeV_body {yv : Value} {Q : Fin → Shared → Prop} (X : K.In s.heap) (J : PySem.W.InstAt s.heap x ox C od) (hs : PySem.W.findIn K (.ref C) "__eq__" = some (some (.ref f))) (hf : PySem.W.isFn K (.ref f) = true) (hu : A.units < cLine)
    (h : wpAny (model prog w) A (call (.ref f) [.ref x, yv]) (fun v s' => ∃ b, v = Value.bool b ∧ Q (.done (.ret (.bool (!b)))) s') E s) : wpAny (model prog w) A (Builtin.«object.__ne__» ⟨[.ref x, yv], []⟩) Q E s := by
  unfold Builtin.«object.__ne__»
  repeat (first
    | with_reducible refine wpAny_cRoomFor hu ?_
    | (refine wpAny_bind (m := callSpecialIfBound? (.ref x) (Str.ofString "__eq__") [yv]) (PySem.W.ifBound_K X J hs hf (wpAny_mono h (fun v s' hv => ?_) fun _ _ e => e))
       obtain ⟨b, rfl, hq⟩ := hv
       repeat (first | exact hq | exact wpAny_pure hq | exact wpAny_truthy_bool hq | (refine wpAny_bind (m := truthy (.bool _)) (wpAny_truthy_bool ?_)) | wp_step))
    | wp_step)
theorem objNeV_call {yv : Value} {Q : Value → Shared → Prop} (X : K.In s.heap) (J : PySem.W.InstAt s.heap x ox C od) (hm : PySem.W.mroIn K C (.type "object") = some true) (hs : PySem.W.findIn K (.ref C) "__eq__" = some (some (.ref f))) (hf : PySem.W.isFn K (.ref f) = true) (hu : A.units + 1 < cLine)
    (h : wpAny (model prog w) A.in1 (call (.ref f) [.ref x, yv]) (NotBack Q) E s) : wpAny (model prog w) A (call (.builtin "object.__ne__") [.ref x, yv]) Q E s := by
  refine wpAny_call (codeAny_call_builtin F.cmp_object.ne.plain F.cmpEntry_ne (PySem.W.check_slot F.cmpKind_ne F.cmpSplit_ne (J.type.andThen (PySem.W.looks_mroIn X hm)) (F.cmpArgs_ne _ _) ?_))
  exact objNeV_body X J hs hf hu h
theorem cmpNeN_K {Q : Value → Shared → Prop} (X : K.In s.heap) (J : PySem.W.InstAt s.heap x ox C od) (hno : PySem.W.subIn K (.type "NoneType") (.ref C) = some false) (hm : PySem.W.mroIn K C (.type "object") = some true)
    (hn : PySem.W.findIn K (.ref C) "__ne__" = some (some (.builtin "object.__ne__"))) (hs : PySem.W.findIn K (.ref C) "__eq__" = some (some (.ref f))) (hf : PySem.W.isFn K (.ref f) = true) (hu : A.units + 1 < cLine)
    (h : wpAny (model prog w) A.in1 (call (.ref f) [.ref x, .none]) (NotBack Q) E s) : wpAny (model prog w) A (compareOp .NotEq (.ref x) .none) Q E s := by
  show wpAny (model prog w) A (richCompare .NotEq (.ref x) .none) Q E s
  have one : wpAny (model prog w) A (tryCompare (.ref x) "__ne__" .none) (fun r s' => ∃ v, r = some v ∧ Q v s') E s := by
    unfold tryCompare
    refine wpAny_bind (objNe_bound X J hn (objNeV_call X J hm hs hf hu (wpAny_mono h (fun v s' hv => ?_) fun _ _ e => e)))
    obtain ⟨b, rfl, hq⟩ := hv
    exact ⟨b, rfl, wpAny_pure ⟨_, rfl, hq⟩⟩
  have tn : PySem.W.Looks (model prog w) s.heap (typeOf Value.none) (.type "NoneType") := .now
  unfold richCompare
  rw [cmpInfo_NotEq]
  simp only [oneThing_ref]
  refine wpAny_holding (wpAny_bind (wpAny_cRoomFor (by omega) ?_))
  refine wpAny_bind (J.type.here (wpAny_bind (tn.here ?_)))
  rw [show (Value.ref C != Value.type "NoneType") = true from by simp]
  simp only [if_true]
  refine wpAny_bind ((PySem.W.looks_subIn X hno).here ?_)
  simp only [Bool.false_eq_true, if_false]
  refine wpAny_bind (wpAny_mono one (fun r s' z => ?_) fun _ _ e => e)
  obtain ⟨v, rfl, hq⟩ := z
  exact wpAny_pure hq
end
section
variable {X : Cx} {C f : Addr} {fd : FuncData} {ps : List Str} {CX : CXT} {k : Nat} {sp : Sp}
def rOwnNeN (C : Addr) (sp : Sp) (E : XK) : R2 := fun x y H Q => ∃ a dx fs, x = .ref a ∧ y = .non ∧ H a = some (.ins C dx fs) ∧ sp [x, y] H (fun v H' => ∃ t, v = .bl t ∧ Q (.bl (!t)) H') E
theorem op_ownNeN {E : XK} (hno : PySem.W.subIn X.K (.type "NoneType") (.ref C) = some false) (hm : PySem.W.mroIn X.K C (.type "object") = some true) (hn : PySem.W.findIn X.K (.ref C) "__ne__" = some (some (.builtin "object.__ne__"))) (hs : PySem.W.findIn X.K (.ref C) "__eq__" = some (some (.ref f))) (hf : PySem.W.isFn X.K (.ref f) = true)
    (F : FnOk X.prog X.w X.K X.mg X.base CX k f fd ps sp) (hr : Room (k + 1) X.A) (hb : Binds X.K fd ps []) (hx : ∀ (H : Hp) (s : Shared) (e : Value) (s' : Shared), CX X.stack H s E e s' → False) : OpR X (compareOp .NotEq) (rOwnNeN C sp E) := by
  intro pn sg σ H x y v u Q I rx ry h
  obtain ⟨a, dx, fs, rfl, rfl, ha, q⟩ := h
  cases rx
  cases (show u = Value.none from ry)
  obtain ⟨od, J⟩ := inst_of I ha
  refine cmpNeN_K I.kIn J hno hm hn hs hf (by have := hr.units; omega) ?_
  have hl := F.len _ _ _ _ q
  have rv : Vals [V.ref a, V.non] [Value.ref a, Value.none] := .cons rfl (.cons rfl .nil)
  refine wpAny_call (codeAny_mono (F.run X.A.in1 X.stack sg H ⟨[.ref a, .none], []⟩ [.ref a, .none] [.ref a, .non] _ E hr.in1 I.env0.in1 (by
    have := hb sg [.ref a, .none] I.kIn (by simpa using hl)
    simpa using this) rv q) fun r s' hq => ?_)
  cases r with
  | error e => exact (hx _ _ _ _ hq).elim
  | ok fl =>
    cases fl with
    | ret w =>
      obtain ⟨z, H', I', rz, t, ez, ex⟩ := I.after hq
      subst ez
      cases (show w = Value.bool t from rz)
      exact ⟨t, rfl, .bl (!t), H', I', rfl, ex⟩
    | next => exact False.elim hq
    | brk => exact False.elim hq
    | cont => exact False.elim hq
end
/-! ### a comprehension over the rows and their items -/
/-- [f(item) for row in rows for item in row] -/
theorem lc2_rows {K : Frag} {pa : Addr} {ws : List V} {m : List (List Int)} {H1 : Hp} {D : Addr} {j j1 : Nat} {te : TE} {vs vs1 : List Nat} {σ : L2.St} {f : Int → Int} {Qd : Hp → Prop} (ha : SqT K H1 pa ws) (hD : H1 D = none)
    (hp : Paired (TRow K H1) ws m) (hlen : m.flatten.length ≤ 1000)
    (hw0 : ∀ x, wipe (List.set (wipe σ vs) j x) vs = wipe σ vs) (hw1 : ∀ x y, wipe (List.set (wipe (List.set (wipe σ vs) j x) vs1) j1 y) vs1 = wipe (List.set (wipe σ vs) j x) vs1)
    (hrow : ∀ x, (List.set (wipe σ vs) j x)[j]? = some x)
    (step : ∀ (z : Int) (x : Option V) (H : Hp) (Ko : VK), Ko (.int (f z)) H → te (List.set (wipe (List.set (wipe σ vs) j x) vs1) j1 (some (.int z))) H Ko)
    (done : ∀ H, Same H1 H → H D = some (.lst ((m.flatten.map f).map V.int)) → Qd H) :
    ∃ W : Nat → Nat → Hp → Prop, (∃ m, W 0 m (upd H1 D (.lst []))) ∧ ∀ i m H, W i m H →
  ((Itt K pa).stop i H ∧ Qd H) ∨ ((Itt K pa).go i H ∧ ∃ Nx : Hp → Prop, (∀ H', Nx H' → ∃ m', m' < m ∧ W (i + 1) m' H') ∧ ∀ x H', (Itt K pa).yld i H x H' → gName j x (wipe σ vs) H' fun σ2 H2 => wipe σ2 vs = wipe σ vs ∧ tYes σ2 H2 fun b H3 =>
    if b = true then iTup K (tVar j) σ2 H3 fun J1 H4 => ∃ W1 : Nat → Nat → Hp → Prop, (∃ m, W1 0 m H4) ∧ ∀ j2 k H, W1 j2 k H →
      (J1.stop j2 H ∧ Nx H) ∨ (J1.go j2 H ∧ ∃ Nx1 : Hp → Prop, (∀ H', Nx1 H' → ∃ k', k' < k ∧ W1 (j2 + 1) k' H') ∧ ∀ x H', J1.yld j2 H x H' → gName j1 x (wipe σ2 vs1) H' fun σ3 H5 => wipe σ3 vs1 = wipe σ2 vs1 ∧ tYes σ3 H5 fun b H6 =>
        if b = true then te σ3 H6 fun y H7 => ∃ acc, H7 D = some (.lst acc) ∧ acc.length < sizeLine ∧ Nx1 (upd H7 D (.lst (acc ++ [y]))) else Nx1 H6)
    else Nx H3) := by
  have lw := Paired.length hp
  have w := walk_tup (K := K) (a := pa) (xs := ws)
  let P : Nat → Hp → Prop := fun i H => Same H1 H ∧ H D = some (.lst (((m.take i).flatten.map f).map V.int))
  have upk : ∀ {H : Hp} {o : HO}, Same H1 H → Same H1 (upd H D o) := fun s b o e => by rw [upd_ne (ne_of_none e hD)]; exact s _ _ e
  refine ⟨fun i k H => k = ws.length - i ∧ i ≤ ws.length ∧ P i H, ⟨ws.length, by simp, Nat.zero_le _, upk (Same.refl _), by rw [upd_same]; rfl⟩, ?_⟩
  rintro i k H ⟨rfl, hi, sH, eD⟩
  by_cases hlt : i < ws.length
  · refine .inr ⟨w.goes i H hlt (Same.seqT sH ha), P (i + 1), fun H' p' => ⟨ws.length - (i + 1), by omega, rfl, hlt, p'⟩, fun x H' y => ?_⟩
    obtain ⟨rfl, ex⟩ := w.yields i H x H' hlt (Same.seqT sH ha) y
    obtain ⟨r, er, a, rfl, har⟩ := Paired.getR hp ex
    have w1 := walk_tup (K := K) (a := a) (xs := r.map V.int)
    refine ⟨hw0 _, tyes_of ?_⟩
    have etk : m.take (i + 1) = m.take i ++ [r] := by rw [List.take_add_one, er]; rfl
    have hfl : ((m.take (i + 1)).flatten).length ≤ m.flatten.length := by
      have : m.flatten = (m.take (i + 1)).flatten ++ (m.drop (i + 1)).flatten := by rw [← List.flatten_append, List.take_append_drop]
      rw [this, List.length_append]
      omega
    rw [etk, List.flatten_append, List.length_append] at hfl
    simp only [List.flatten_cons, List.flatten_nil, List.append_nil] at hfl
    refine ⟨_, hrow _, a, rfl, ⟨_, Same.seqT sH har⟩, ?_⟩
    let P1 : Nat → Hp → Prop := fun q H => Same H1 H ∧ H D = some (.lst (((((m.take i).flatten ++ r.take q)).map f).map V.int))
    refine ⟨fun q k H => k = (r.map V.int).length - q ∧ q ≤ (r.map V.int).length ∧ P1 q H, ⟨(r.map V.int).length, by simp, Nat.zero_le _, sH, by rw [List.take_zero, List.append_nil]; exact eD⟩, ?_⟩
    rintro q k H3 ⟨rfl, hq, s3, e3⟩
    by_cases hlt1 : q < (r.map V.int).length
    · refine .inr ⟨w1.goes q H3 hlt1 (Same.seqT s3 har), P1 (q + 1), fun H' p' => ⟨(r.map V.int).length - (q + 1), by omega, rfl, hlt1, p'⟩, fun x H4 y => ?_⟩
      obtain ⟨rfl, ex1⟩ := w1.yields q H3 x H4 hlt1 (Same.seqT s3 har) y
      obtain ⟨z, ez, rfl⟩ := ints_get ex1
      refine ⟨hw1 _ _, tyes_of (step z _ _ _ ⟨_, e3, small1000 ?_, upk s3, ?_⟩)⟩
      · rw [List.length_map] at hlt1
        rw [List.length_map, List.length_map, List.length_append, List.length_take]
        omega
      · rw [upd_same, List.take_add_one, ez]
        simp [List.map_append]
    · have e : q = (r.map V.int).length := by omega
      subst e
      refine .inl ⟨w1.stops H3 (Same.seqT s3 har), s3, ?_⟩
      have e2 : List.take (r.map V.int).length r = r := List.take_of_length_le (by rw [List.length_map]; exact Nat.le_refl _)
      rw [e2] at e3
      rw [etk, List.flatten_append]
      simp only [List.flatten_cons, List.flatten_nil, List.append_nil]
      exact e3
  · have e : i = ws.length := by omega
    subst e
    rw [List.take_of_length_le (by omega)] at eD
    exact .inl ⟨w.stops H (Same.seqT sH ha), done H sH eD⟩
end Gm
/-! Of an own class: x in c, c == an object of another own class, c != None; range(a, b) as a value; a comprehension over the rows and their items. -/
namespace Gm
open PySem PySem.Spec PyProof.Rows L2
section
variable {X : Cx} {C f : Addr} {fd : FuncData} {ps : List Str} {CX : CXT} {k : Nat} {sp : Sp} {E : XK}
/-- x in c: the answer of the own def is True or False -/
def rOwnIn (C : Addr) (sp : Sp) (E : XK) (neg : Bool) : R2 := fun x y H Q => ∃ b dx fs, y = .ref b ∧ H b = some (.ins C dx fs) ∧ sp [y, x] H (fun v H' => ∃ t, v = .bl t ∧ Q (.bl (if neg then !t else t)) H') E
theorem op_ownIn (hs : PySem.W.findIn X.K (.ref C) "__contains__" = some (some (.ref f))) (hf : PySem.W.isFn X.K (.ref f) = true)
    (F : FnOk X.prog X.w X.K X.mg X.base CX k f fd ps sp) (hr : Room k X.A) (hb : Binds X.K fd ps []) (hx : Passes CX X E) : OpR X (compareOp .In) (rOwnIn C sp E false) := by
  intro pn sg σ H x y v u Q I rx ry h
  obtain ⟨b, dx, fs, rfl, ha, q⟩ := h
  cases ry
  obtain ⟨od, J⟩ := inst_of I ha
  obtain ⟨m, hF⟩ := I.fr
  refine PySem.W.in_K hF I.ok.mod.kin J hs hf ?_
  refine wpAny_mono (run_fn (us := [.ref b, v]) (vs := [.ref b, x]) F hr hb .nil hx I (.cons rfl (.cons rx .nil)) q) (fun w' s' z => ?_) fun _ _ z => z
  obtain ⟨zR, HR, IR, relZ, t, rfl, postZ⟩ := z
  cases (show w' = Value.bool t from relZ)
  exact wpAny_truthy_bool ⟨.bl t, HR, IR, rfl, postZ⟩
theorem op_ownNotIn (hs : PySem.W.findIn X.K (.ref C) "__contains__" = some (some (.ref f))) (hf : PySem.W.isFn X.K (.ref f) = true)
    (F : FnOk X.prog X.w X.K X.mg X.base CX k f fd ps sp) (hr : Room k X.A) (hb : Binds X.K fd ps []) (hx : Passes CX X E) : OpR X (compareOp .NotIn) (rOwnIn C sp E true) := by
  intro pn sg σ H x y v u Q I rx ry h
  obtain ⟨b, dx, fs, rfl, ha, q⟩ := h
  cases ry
  obtain ⟨od, J⟩ := inst_of I ha
  obtain ⟨m, hF⟩ := I.fr
  refine PySem.W.notIn_K hF I.ok.mod.kin J hs hf ?_
  refine wpAny_mono (run_fn (us := [.ref b, v]) (vs := [.ref b, x]) F hr hb .nil hx I (.cons rfl (.cons rx .nil)) q) (fun w' s' z => ?_) fun _ _ z => z
  obtain ⟨zR, HR, IR, relZ, t, rfl, postZ⟩ := z
  cases (show w' = Value.bool t from relZ)
  exact wpAny_truthy_bool ⟨.bl (!t), HR, IR, rfl, postZ⟩
/-- c == an object of another own class -/
def rOwnCmpO (C C2 : Addr) (sp : Sp) (E : XK) : R2 := fun x y H Q => ∃ a b dx fs dy gs, x = .ref a ∧ y = .ref b ∧ H a = some (.ins C dx fs) ∧ H b = some (.ins C2 dy gs) ∧ sp [x, y] H Q E
theorem op_ownCmpO {C2 : Addr} (hs : PySem.W.findIn X.K (.ref C) "__eq__" = some (some (.ref f))) (hf : PySem.W.isFn X.K (.ref f) = true) (hnf : PySem.W.notFirst X.K C (.ref C2) = true)
    (F : FnOk X.prog X.w X.K X.mg X.base CX k f fd ps sp) (hr : Room k X.A) (hb : Binds X.K fd ps []) (hx : Passes CX X E) : OpR X (compareOp .Eq) (rOwnCmpO C C2 sp E) := by
  intro pn sg σ H x y v u Q I rx ry h
  obtain ⟨a, b, dx, fs, dy, gs, rfl, rfl, ha, hb', q⟩ := h
  cases rx
  cases ry
  obtain ⟨od, J⟩ := inst_of I ha
  obtain ⟨od', J'⟩ := inst_of I hb'
  obtain ⟨m, hF⟩ := I.fr
  show wpAny _ _ (richCompare .Eq (.ref a) (.ref b)) _ _ _
  refine PySem.W.cmp_K (op := .Eq) (tb := .ref C2) hr.units0 hF I.ok.mod.kin J J'.type hnf hs hf ?_
  refine wpAny_mono (run_fn (us := [.ref a, .ref b]) (vs := [.ref a, .ref b]) F hr hb .nil hx I (.cons rfl (.cons rfl .nil)) q) (fun w s' z => ?_) fun _ _ z => z
  obtain ⟨zR, HR, IR, relZ, postZ⟩ := z
  exact SlX.cmpback relZ ⟨zR, HR, IR, relZ, postZ⟩
end
end Gm
/-! any(a tuple of ints) -/
namespace Gm
open PySem PySem.Spec PyProof.Rows L2
theorem iter_anyT {prog : Program} {w : World} {A : Around} {E : Value → Shared → Prop} {s : Shared} {l : Addr} {items : Array Value} {Q : Value → Shared → Prop} (hl : s.heap.IsTuple l items)
    (h : ∀ s₂ : Shared, s₂ = { s with heap := s.heap.push { cls := .type "tuple_iterator", data := .fields #[.ref l, .int 0 0] } } →
      (s₂.heap.IsTupleIter s.heap.objs.size l 0 ∧ s₂.heap.IsTuple l items) → l ≠ s.heap.objs.size → Q (.ref s.heap.objs.size) s₂) : wpAny (model prog w) A (pyIter (.ref l)) Q E s := by
  have hlt : l < s.heap.objs.size := by obtain ⟨_, e, _⟩ := hl; exact Heap.lt_size e
  exact wpAny_pyIter_tuple hl (h _ rfl ⟨⟨_, Heap.get?_push_size _ rfl, rfl, rfl⟩, hl.push _⟩ (Nat.ne_of_lt hlt))
theorem truth_ints {prog : Program} {w : World} {A : Around} {ns : List Int} {its : List Value} (e : Vals (ns.map V.int) its) :
    TruthOf prog w A (fun i v => its.toArray[i]? = some v) (fun i => ns.getD i 0 != 0) := fun i v s Q E hv hq => by
  have hv' : its[i]? = some v := by simpa using hv
  obtain ⟨z, t, hz, rfl⟩ : ∃ z t, ns[i]? = some z ∧ v = Value.int z t := by
    clear hq hv
    induction ns generalizing its i with
    | nil => cases e; cases hv'
    | cons n ns ih =>
      cases e with
      | cons x xs =>
        cases i with
        | zero =>
          obtain ⟨t, ht⟩ := x
          refine ⟨n, t, rfl, ?_⟩
          have : _ = v := Option.some.inj hv'
          rw [← this, ht]
        | succ i => exact ih xs i hv'
  have hg : (ns.getD i 0 != 0) = (z != 0) := by rw [List.getD_eq_getElem?_getD, hz] <;> rfl
  have hq' : Q (ns.getD i 0 != 0) s := hq
  rw [hg] at hq'
  exact PySem.P.truthy_int hq'
theorem any_rangeI : ∀ ns : List Int, (List.range ns.length).any (fun i => ns.getD i 0 != 0) = ns.any (fun z => z != 0)
  | [] => rfl
  | b :: bs => by
    rw [List.length_cons, List.range_succ_eq_map, List.any_cons, List.any_map, List.any_cons, ← any_rangeI bs]
    all_goals rfl
section
variable {X : Cx}
def rAnyI (K : PySem.W.Frag) : List V → Hp → VK → Prop := fun vs H Q => ∃ (a : Addr) (ns : List Int), vs = [V.ref a] ∧ SqT K H a (ns.map V.int) ∧ Q (.bl (ns.any fun z => z != 0)) H
theorem cr_anyI (hc : X.calm = true) : CallR X (.builtin "any") (rAnyI X.K) := by
  intro pins s σ H vs us Q I r h
  obtain ⟨a, ns, rfl, hs, q⟩ := h
  obtain ⟨its, rv, hl, _⟩ := I.tuple hs
  rw [Vals.ref1 r]
  refine call_any_walk (iter_anyT hl fun s₂ e2 st hne => ?_)
  subst e2
  refine ⟨_, _, _, _, _, _, _, rfl, Walks.tuple (A := X.A.in1) (I.ok.hd hc) _ a hne its.toArray, st, truth_ints rv, fun h' tk hk => ?_⟩
  refine ⟨.bl _, H, I.kept fun b o eo => hk b o (fun hmem => ?_) (Heap.get?_push_of_some _ eo), ?_, q⟩
  · rcases List.mem_cons.mp hmem with e1 | hmem
    · exact absurd (e1 ▸ Heap.lt_size eo) (Nat.lt_irrefl _)
    · cases hmem
  · have hlen : its.length = ns.length := by have := rv.length; rw [List.length_map] at this; omega
    show Value.bool _ = Value.bool _
    rw [← any_rangeI, List.size_toArray, hlen]
theorem anyIK (K : PySem.W.Frag) (hK : X.K = K) (hc : X.calm = true) : CallR X (.builtin "any") (rAnyI K) := by subst hK; exact cr_anyI hc
end
end Gm
/-! try with several clauses, each with a name or without -/
namespace Gm
open PySem PySem.Spec PyProof.Rows L2
abbrev Clause := Value × Option Nat × (Addr → Value → Option Addr → TS)
/-- behind a clause its name is gone -/
def endI (i : Option Nat) (D : Ends) : Ends := match i with
  | none => D
  | some i => { nx := fun σ' H' => D.nx (σ'.set i none) H', rt := D.rt, bk := fun σ' H' => D.bk (σ'.set i none) H', ct := fun σ' H' => D.ct (σ'.set i none) H' }
def setI (i : Option Nat) (a : Addr) (σ : L2.St) : L2.St := match i with
  | none => σ
  | some i => σ.set i (some (.ref a))
def wCl (K : PySem.W.Frag) (Wout : WX) (D : Ends) : List Clause → WX
  | [] => Wout
  | (c, i, ts) :: r => fun cls d σ H => ∃ b, PySem.W.exmOne K cls c = some b ∧ (b = true → ∀ a, H a = none → ts a cls d (endI i D) (setI i a σ) H) ∧ (b = false → wCl K Wout D r cls d σ H)
inductive ClsOk (X : Cx) : List ExceptHandler → List Clause → Prop
  | nil : ClsOk X [] []
  | bare {x : Str} {c : Value} {ts : Addr → Value → Option Addr → TS} {b₀ : Stmt} {suite : List Stmt} {np pos' : Pos} {hds : List ExceptHandler} {l : List Clause} (hc : Names X x c)
      (hsu : ∀ (a : Addr) (oe : Obj) (cls : Value) (d : Option Addr) (pn : List (Addr × Obj)), Zc cls d oe → (∃ vs, oe.data = .fields vs) → PSs (X.suite a ((a, oe) :: pn)) (b₀ :: suite) (ts a cls d)) (r : ClsOk X hds l) :
      ClsOk X (.ExceptHandler (some (.Name x np)) none (b₀ :: suite) pos' :: hds) ((c, none, ts) :: l)
  | named {x n : Str} {c : Value} {i : Nat} {ts : Addr → Value → Option Addr → TS} {b₀ : Stmt} {suite : List Stmt} {np pos' : Pos} {hds : List ExceptHandler} {l : List Clause} (hc : Names X x c) (hN : X.N.Nodup) (hi : X.N[i]? = some n) (hln : X.env.kindOf n = some .local)
      (hsu : ∀ (a : Addr) (oe : Obj) (cls : Value) (d : Option Addr) (pn : List (Addr × Obj)), Zc cls d oe → (∃ vs, oe.data = .fields vs) → PSs (X.suite a ((a, oe) :: pn)) (b₀ :: suite) (ts a cls d)) (r : ClsOk X hds l) :
      ClsOk X (.ExceptHandler (some (.Name x np)) (some n) (b₀ :: suite) pos' :: hds) ((c, some i, ts) :: l)
section
variable {X : Cx} {pins : List (Addr × Obj)}
/-- how a statement's end in another context is one here -/
theorem sp_back {D D' : Ends} {f : Flow} {s : Shared} {X' : Cx} {pins' : List (Addr × Obj)} (h : SP X' pins' D' f s) (ok : ∀ σ H, Inv X' pins' σ H s → Inv X pins σ H s) (nx : ∀ σ H, D'.nx σ H → D.nx σ H) (rt : ∀ v H, D'.rt v H → D.rt v H) (bk : ∀ σ H, D'.bk σ H → D.bk σ H) (ct : ∀ σ H, D'.ct σ H → D.ct σ H) : SP X pins D f s := by
  cases f with
  | next => obtain ⟨σ, H, I, q⟩ := h; exact ⟨σ, H, ok _ _ I, nx _ _ q⟩
  | brk => obtain ⟨σ, H, I, q⟩ := h; exact ⟨σ, H, ok _ _ I, bk _ _ q⟩
  | cont => obtain ⟨σ, H, I, q⟩ := h; exact ⟨σ, H, ok _ _ I, ct _ _ q⟩
  | ret u => obtain ⟨v, σ, H, I, r, q⟩ := h; exact ⟨v, σ, H, ok _ _ I, r, rt _ _ q⟩
end
section
variable {X : Cx} {body : List Stmt} {h₀ : ExceptHandler} {hds : List ExceptHandler} {l : List Clause} {pos : Pos} {tb : WX → TS} {Wout : WX}
theorem ps_try_cl (hs : X.stack = X.env :: X.outer) (hf : X.env.frame = some X.env.locals) (tk : Takes X Wout)
    (hb : ∀ (W : WX) (pn : List (Addr × Obj)) (xe : Value → Shared → Prop), Takes (X.tr pn xe) W → PassesOwn (model X.prog X.w) X.A X.env xe → PSs (X.tr pn xe) body (tb W))
    (hh : ClsOk X (h₀ :: hds) l) : PS X (.Try body (h₀ :: hds) [] [] pos) (fun D σ H => tb (wCl X.K Wout D l) D σ H) := by
  refine ⟨fun pins s σ H D I h => ?_⟩
  have ok := I.ok
  have hfr : X.A.frames = some (X.env :: X.outer) := by rw [ok.frames, hs]
  refine wpAny_Try_except ?_
  refine wpAny_mono ((hb (wCl X.K Wout D l) (X.pn ++ pins) (fun e s₁ => wpAny (model X.prog X.w) X.A (noteFrame e X.env) (fun _ s₂ => wpAny (model X.prog X.w) X.A (setFlight e none) (fun _ s₃ =>
    wpAny (model X.prog X.w) X.A (handleBy e X.env (h₀ :: hds)) (SP X pins D) X.xe s₃) X.xe s₂) X.xe s₁) (fun u s' xx => ?caught) PassesOwn.looking).run [] s σ H D (I.toTry _) h) (fun f s1 hsp => ?ends) (fun e s1 he => he)
  case ends =>
    have back : SP X pins D f s1 := sp_back hsp (fun _ _ J => J.ofTry ok) (fun _ _ q => q) (fun _ _ q => q) (fun _ _ q => q) (fun _ _ q => q)
    cases f with
    | next => exact wpAny_execs_nil back
    | brk => exact back
    | cont => exact back
    | ret u => exact back
  case caught =>
    obtain ⟨a, B, sI, pins', σ', H', cls, d, rfl, J', nb, up, sky, na, os, ag, w⟩ := xx
    have J : Inv X pins σ' H' sI := J'.ofTry ok
    rw [show (X.tr (X.pn ++ pins) _).stack = X.env :: X.outer from hs] at sky
    show wpAny (model X.prog X.w) X.A (noteFrame (.ref a) X.env) _ _ _
    refine Sky.land Zc.steady hfr hf sky fun h3 fl3 up3 => ?_
    have J3 : Inv X pins σ' H' { s' with heap := h3 } := J.landed nb fl3.1 (up.trans up3) os ag
    obtain ⟨oe3, vs3, he3, hz3, hd3⟩ := fl3.there
    have nfr : a ∉ frs (X.env :: X.outer) := fun hm => by
      obtain ⟨_, o', e', hnf⟩ := fl3.2.2.1.mem hm
      rw [he3] at e'
      cases e'
      exact hnf _ hd3
    have nL : a ≠ X.env.locals := fun z => nfr (List.mem_filterMap.mpr ⟨X.env, List.mem_cons_self, by rw [hf, z]⟩)
    have nF : a ∉ X.fs := fun hm => by
      obtain ⟨e, he, q⟩ := List.mem_filterMap.mp hm
      exact nfr (List.mem_filterMap.mpr ⟨e, List.mem_cons_of_mem _ he, q⟩)
    have S3 := J3.suite he3 hd3 na nL nF
    have LT : PySem.W.Looks (model X.prog X.w) h3 (typeOf (.ref a)) cls := fun A Q E s k q => wpAny_typeOf_ref (k _ _ he3) (by rw [hz3.1]; exact q)
    have named : ∀ {x : Str} {c : Value} {np : Pos} {Q : Value → Shared → Prop} {E : Value → Shared → Prop}, Names X x c → Q c { s' with heap := h3 } → wpAny (model X.prog X.w) (X.A.mark (some (.ref a))) (eval (.Name x np) X.env) Q E { s' with heap := h3 } := fun {x c np Q E} hc q => by
      obtain ⟨hg, hdbg, hm | ⟨hm, hv, hnn⟩⟩ := hc
      · exact ld_glob (X := X.suite a ((a, oe3) :: (X.pn ++ pins))) S3 hg hm q hdbg
      · exact ld_blt (X := X.suite a ((a, oe3) :: (X.pn ++ pins))) S3 hg hm hv q hnn hdbg
    -- no clause is left
    have onward : Wout cls d σ' H' → wpAny (model X.prog X.w) X.A (handleBy (.ref a) X.env []) (SP X pins D) X.xe { s' with heap := h3 } := fun w => by
      refine wpAny_handleBy_nil ?_
      obtain ⟨_, _, _, oe, vs, T, oT, ts', he, hz, hd, h1, hr⟩ := id fl3
      unfold PySem.passOn
      refine wpAny_bind (wpAny_field he hd h1 ?_)
      rw [if_neg (show ¬ ((Value.ref T == Value.none) = true) from by simp)]
      have fin : wpAny (model X.prog X.w) X.A (setFlight (.ref a) X.env.frame) (fun _ s4 => wpAny (model X.prog X.w) X.A (throw (.ref a) : Sem Flow) (SP X pins D) X.xe s4) X.xe { s' with heap := h3 } := by
        rw [hf]
        refine HandSPX.setFlight_upZ fl3 fun h4 hh4 up4 => wpAny_throw (tk _ _ ?_)
        exact ⟨a, B, sI, pins, σ', H', cls, d, rfl, J, nb, (up.trans up3).trans up4, .inr (.inr (by rw [hs]; exact hh4)), na, os, ag, w⟩
      first
        | exact wpAny_bind (wpAny_pure (wpAny_bind fin))
        | exact wpAny_bind fin
    clear h hb
    suffices go : ∀ {hds' : List ExceptHandler} {l' : List Clause}, ClsOk X hds' l' → wCl X.K Wout D l' cls d σ' H' → wpAny (model X.prog X.w) X.A (handleBy (.ref a) X.env hds') (SP X pins D) X.xe { s' with heap := h3 } from go hh w
    intro hds' l' hk w
    induction hk with
    | nil => exact onward w
    | @bare x c ts b₀ suite np pos' hds2 l2 hc hsu r ih =>
      obtain ⟨b, hb1, hyes, hno⟩ := w
      refine wpAny_handleBy_cons (codeAny_handlers_test ?_) (by intro q; cases q)
      refine named hc ((PySem.W.exm_one (M := model X.prog X.w) (J3.kIn) LT hb1).here ?_)
      cases b with
      | false => exact ih (hno rfl)
      | true =>
        refine codeAny_handlers_suite ?_
        refine HandSPX.lands_againZ fl3 fun h4 fl4 up4 => ?_
        have J4 : Inv X pins σ' H' { s' with heap := h4 } := J.landed nb fl4.1 ((up.trans up3).trans up4) os ag
        obtain ⟨oe4, vs4, he4, hz4, hd4⟩ := fl4.there
        have S4 := J4.suite he4 hd4 na nL nF
        refine wpAny_mono ((hsu a oe4 cls d (X.pn ++ pins) hz4 ⟨_, hd4⟩).run [] _ _ H' _ S4 (hyes rfl a na)) (fun f s6 hsp => ?_) (fun _ _ z => False.elim z)
        have back : SP X pins D f s6 := sp_back hsp (fun _ _ J => J.unsuite ok) (fun _ _ q => q) (fun _ _ q => q) (fun _ _ q => q) (fun _ _ q => q)
        cases f <;> exact back
    | @named x n c i ts b₀ suite np pos' hds2 l2 hc hN hi hln hsu r ih =>
      obtain ⟨b, hb1, hyes, hno⟩ := w
      refine wpAny_handleBy_cons (codeAny_handlers_test ?_) (by intro q; cases q)
      refine named hc ((PySem.W.exm_one (M := model X.prog X.w) (J3.kIn) LT hb1).here ?_)
      cases b with
      | false => exact ih (hno rfl)
      | true =>
        refine codeAny_handlers_suite_as ?_
        refine HandSPX.lands_againZ fl3 fun h4 fl4 up4 => ?_
        have J4 : Inv X pins σ' H' { s' with heap := h4 } := J.landed nb fl4.1 ((up.trans up3).trans up4) os ag
        obtain ⟨oe4, vs4, he4, hz4, hd4⟩ := fl4.there
        have S4 := J4.suite he4 hd4 na nL nF
        refine store_ok (X := X.suite a ((a, oe4) :: (X.pn ++ pins))) (v := .ref a) S4 hN hi (.inl hln) rfl (fun s5 S5 => ?_) (.inr hln)
        refine wpAny_mono ((hsu a oe4 cls d (X.pn ++ pins) hz4 ⟨_, hd4⟩).run [] s5 _ H' _ S5 (hyes rfl a na)) (fun f s6 hsp => ?_) (fun _ _ z => False.elim z)
        have gone : ∀ {σ6 : L2.St} {H6 : Hp} {Q : Shared → Prop}, Inv (X.suite a ((a, oe4) :: (X.pn ++ pins))) [] σ6 H6 s6 → (∀ s7, Inv X pins (σ6.set i none) H6 s7 → Q s7) →
            wpAny (model X.prog X.w) X.A (do bindName X.env n .none; unbindBehindTheSuite X.env n pos') (fun _ s7 => Q s7) X.xe s6 := fun {σ6 H6 Q} S6 hq => gone_ok (S6.unsuite ok) hN hi hln hq
        cases f with
        | next =>
          obtain ⟨σ6, H6, S6, q6⟩ := hsp
          exact gone S6 fun s7 J7 => ⟨_, _, J7, q6⟩
        | brk =>
          obtain ⟨σ6, H6, S6, q6⟩ := hsp
          exact gone S6 fun s7 J7 => ⟨_, _, J7, q6⟩
        | cont =>
          obtain ⟨σ6, H6, S6, q6⟩ := hsp
          exact gone S6 fun s7 J7 => ⟨_, _, J7, q6⟩
        | ret u =>
          obtain ⟨v6, σ6, H6, S6, r6, q6⟩ := hsp
          exact gone S6 fun s7 J7 => ⟨_, _, _, J7, r6, q6⟩
end
end Gm
/-! isinstance(e, c), e a caught error that has a dict of its own -/
namespace Gm
open PySem PySem.Spec PyProof.Rows L2
def rIsX (K : PySem.W.Frag) (cls : Value) (d : Option Addr) (D a : Addr) : List V → Hp → VK → Prop := fun xs H Q => ∃ (c : V) (cv : Value) (b : Bool) (dd : Addr) (fs : List (Str × V)), xs = [.ref a, c] ∧ (∀ u, RelV c u → u = cv) ∧ cls = .ref D ∧ d = some dd ∧ H dd = some (.xd fs) ∧ PySem.W.kitOne K (.ref D) cv = some b ∧ Q (.bl b) H
theorem call_isX {X : Cx} {a D : Addr} {oe : Obj} {cls : Value} {d : Option Addr} {pn : List (Addr × Obj)} (hcl : (PySem.W.clsIn X.K D).isSome = true) (T : XfC X.K D) (ha : PySem.W.findIn X.K (.ref D) "__class__" = some (some (.builtin "object.__class__")))
    (hn : PySem.W.specialIn X.K (.builtin "object.__class__") "__get__" = some (some (.builtin "getset_descriptor.__get__"))) (ht : PySem.W.takesIn X.K (.builtin "object.__class__") = some true) (hm : PySem.W.mroIn X.K D (.type "object") = some true)
    (hz : Zc cls d oe) (hf : ∃ vs, oe.data = .fields vs) : CallR (X.suite a ((a, oe) :: pn)) (.builtin "isinstance") (rIsX X.K cls d D a) := by
  intro pins s σ H xs us Q I r h
  obtain ⟨c, cv, b, dd, fs, rfl, hcv, ec, ed, ea, e, q⟩ := h
  subst ec ed
  cases r with
  | cons rx rr =>
    cases rr with
    | cons rt rr =>
      cases rr
      cases rx
      have ec := hcv _ rt
      subst ec
      obtain ⟨hget, _⟩ := I.pin (a, oe) (List.mem_append.mpr (.inl List.mem_cons_self))
      obtain ⟨vs, hv⟩ := hf
      have hx : ObjOk X.prog X.w H s.heap dd (.xd fs) := I.hok dd _ ea
      obtain ⟨mA, hns, _⟩ := hx
      obtain ⟨od, ho, _⟩ := lookIn_ns hns
      have J : PySem.W.InstAt s.heap a oe D (some od) := ⟨hget, hz.1, by unfold PySem.W.notCls; rw [hv] <;> rfl, by rw [hz.2]; exact ho⟩
      exact PySem.W.kia_one (PySem.W.kitx_exc (od := some od) hcl T.ga T.gg T.exC ha hn ht hm) I.kIn J e (fun z => nomatch z) fun tk => ⟨.bl b, H, I.kept (t' := tk) fun _ _ z => z, rfl, q⟩
/-- isinstance(e, c), e a caught error without a dict of its own, its class told by the reading -/
def rIsY (K : PySem.W.Frag) (cls : Value) (d : Option Addr) (D a : Addr) : List V → Hp → VK → Prop := fun xs H Q => ∃ (c : V) (cv : Value) (b : Bool), xs = [.ref a, c] ∧ (∀ u, RelV c u → u = cv) ∧ cls = .ref D ∧ d = none ∧ PySem.W.kitOne K (.ref D) cv = some b ∧ Q (.bl b) H
theorem call_isY {X : Cx} {a D : Addr} {oe : Obj} {cls : Value} {d : Option Addr} {pn : List (Addr × Obj)} (hcl : (PySem.W.clsIn X.K D).isSome = true) (T : XfC X.K D) (ha : PySem.W.findIn X.K (.ref D) "__class__" = some (some (.builtin "object.__class__")))
    (hn : PySem.W.specialIn X.K (.builtin "object.__class__") "__get__" = some (some (.builtin "getset_descriptor.__get__"))) (ht : PySem.W.takesIn X.K (.builtin "object.__class__") = some true) (hm : PySem.W.mroIn X.K D (.type "object") = some true)
    (hz : Zc cls d oe) (hf : ∃ vs, oe.data = .fields vs) : CallR (X.suite a ((a, oe) :: pn)) (.builtin "isinstance") (rIsY X.K cls d D a) := by
  intro pins s σ H xs us Q I r h
  obtain ⟨c, cv, b, rfl, hcv, ec, ed, e, q⟩ := h
  subst ec ed
  cases r with
  | cons rx rr =>
    cases rr with
    | cons rt rr =>
      cases rr
      cases rx
      have ec := hcv _ rt
      subst ec
      obtain ⟨hget, _⟩ := I.pin (a, oe) (List.mem_append.mpr (.inl List.mem_cons_self))
      obtain ⟨vs, hv⟩ := hf
      have J : PySem.W.InstAt s.heap a oe D none := ⟨hget, hz.1, by unfold PySem.W.notCls; rw [hv] <;> rfl, by rw [hz.2]; trivial⟩
      exact PySem.W.kia_one (PySem.W.kitx_exc (od := none) hcl T.ga T.gg T.exC ha hn ht hm) I.kIn J e (fun z => nomatch z) fun tk => ⟨.bl b, H, I.kept (t' := tk) fun _ _ z => z, rfl, q⟩
end Gm
/-! any(a list of ints) -/
namespace Gm
open PySem PySem.Spec PyProof.Rows L2
section
variable {X : Cx}
def rAnyL (K : PySem.W.Frag) : List V → Hp → VK → Prop := fun vs H Q => ∃ (a : Addr) (ns : List Int), vs = [V.ref a] ∧ SqL K H a (ns.map V.int) ∧ Q (.bl (ns.any fun z => z != 0)) H
theorem cr_anyL (hc : X.calm = true) : CallR X (.builtin "any") (rAnyL X.K) := by
  intro pn s σ H vs us Q I r ⟨a, ns, ev, hs, q⟩
  subst ev
  obtain ⟨its, rv, hl, _⟩ := I.list hs
  rw [Vals.ref1 r]
  refine call_any_walk (iter_any hl.isList fun s₂ e2 st hne => ?_)
  subst e2
  refine ⟨_, _, _, _, _, _, _, rfl, Walks.list (A := X.A.in1) (I.ok.hd hc) _ a hne its.toArray, st, truth_ints rv, fun h' tk hk => ⟨.bl _, H, I.kept fun b o eo => hk b o (fun hm => ?_) (Heap.get?_push_of_some _ eo), ?_, q⟩⟩
  · rcases List.mem_cons.mp hm with e1 | hm
    · exact absurd (e1 ▸ Heap.lt_size eo) (Nat.lt_irrefl _)
    · cases hm
  · have hlen : its.length = ns.length := by have := rv.length; rw [List.length_map] at this; omega
    show Value.bool _ = Value.bool _
    rw [← any_rangeI, List.size_toArray, hlen]
theorem anyLK (K : PySem.W.Frag) (hK : X.K = K) (hc : X.calm = true) : CallR X (.builtin "any") (rAnyL K) := by subst hK; exact cr_anyL hc
end
end Gm
/-! rows of integers in Hermite form: pivots, spans, sizes -/
namespace Gm
def mixR (a : Int) (x : List Int) (b : Int) (y : List Int) : List Int := List.zipWith (fun x y => a * x + b * y) x y
theorem mixR_len {a b : Int} {x y : List Int} {w : Nat} (hx : x.length = w) (hy : y.length = w) : (mixR a x b y).length = w := by
  unfold mixR
  rw [List.length_zipWith, hx, hy, Nat.min_self]
theorem getD_none {x : List Int} {j : Nat} (h : x.length ≤ j) : x.getD j 0 = 0 := by
  rw [List.getD_eq_getElem?_getD, List.getElem?_eq_none h]
  rfl
theorem mixR_get {a b : Int} {x y : List Int} {w : Nat} (hx : x.length = w) (hy : y.length = w) (j : Nat) : (mixR a x b y).getD j 0 = a * x.getD j 0 + b * y.getD j 0 := by
  by_cases h : j < w
  · unfold mixR
    rw [List.getD_eq_getElem?_getD, List.getElem?_zipWith, List.getElem?_eq_getElem (show j < x.length by omega), List.getElem?_eq_getElem (show j < y.length by omega), List.getD_eq_getElem?_getD, List.getD_eq_getElem?_getD, List.getElem?_eq_getElem (show j < x.length by omega), List.getElem?_eq_getElem (show j < y.length by omega)]
    rfl
  · rw [getD_none (by rw [mixR_len hx hy]; omega), getD_none (by omega), getD_none (by omega), Int.mul_zero, Int.mul_zero]
    rfl
theorem list_ext {x y : List Int} {w : Nat} (hx : x.length = w) (hy : y.length = w) (h : ∀ j, x.getD j 0 = y.getD j 0) : x = y := by
  apply List.ext_getElem (by omega)
  intro j h1 h2
  have := h j
  rw [List.getD_eq_getElem?_getD, List.getD_eq_getElem?_getD, List.getElem?_eq_getElem h1, List.getElem?_eq_getElem h2] at this
  exact this
/-! ### spans -/
def Spn : List (List Int) → (Nat → Int) → Prop
  | [], x => ∀ j, x j = 0
  | r :: R, x => ∃ a : Int, Spn R (fun j => x j - a * r.getD j 0)
theorem Spn.cong {R : List (List Int)} {x y : Nat → Int} (h : Spn R x) (e : ∀ j, x j = y j) : Spn R y := by
  have : x = y := funext e
  rw [← this]
  exact h
theorem Spn.zero : ∀ (R : List (List Int)), Spn R (fun _ => 0)
  | [] => fun _ => rfl
  | r :: R => ⟨0, (Spn.zero R).cong fun j => by rw [Int.zero_mul, Int.sub_zero]⟩
theorem Spn.add : ∀ {R : List (List Int)} {x y : Nat → Int}, Spn R x → Spn R y → Spn R (fun j => x j + y j)
  | [], x, y, h, k => fun j => by show x j + y j = 0; rw [h j, k j]; rfl
  | r :: R, x, y, ⟨a, h⟩, ⟨b, k⟩ => ⟨a + b, (Spn.add h k).cong fun j => by grind⟩
theorem Spn.smul (c : Int) : ∀ {R : List (List Int)} {x : Nat → Int}, Spn R x → Spn R (fun j => c * x j)
  | [], x, h => fun j => by show c * x j = 0; rw [h j, Int.mul_zero]
  | r :: R, x, ⟨a, h⟩ => ⟨c * a, (Spn.smul c h).cong fun j => by grind⟩
theorem Spn.tail {R : List (List Int)} {r : List Int} {x : Nat → Int} (h : Spn R x) : Spn (r :: R) x := ⟨0, h.cong fun j => by rw [Int.zero_mul, Int.sub_zero]⟩
theorem Spn.head (R : List (List Int)) (r : List Int) : Spn (r :: R) (fun j => r.getD j 0) := ⟨1, (Spn.zero R).cong fun j => by show (0 : Int) = r.getD j 0 - 1 * r.getD j 0; omega⟩
theorem Spn.mem : ∀ {R : List (List Int)} {r : List Int}, r ∈ R → Spn R (fun j => r.getD j 0)
  | q :: R, r, h => by
    rcases List.mem_cons.mp h with rfl | h
    · exact Spn.head R r
    · exact (Spn.mem h).tail
/-- a span within a span -/
theorem Spn.sub : ∀ {R S : List (List Int)} {x : Nat → Int}, (∀ r ∈ R, Spn S (fun j => r.getD j 0)) → Spn R x → Spn S x
  | [], S, x, _, h => (Spn.zero S).cong fun j => (h j).symm
  | r :: R, S, x, hs, ⟨a, h⟩ => ((Spn.sub (fun q hq => hs q (List.mem_cons_of_mem _ hq)) h).add ((hs r (List.mem_cons_self ..)).smul a)).cong fun j => by grind
theorem Spn.prop {R : List (List Int)} {x : Nat → Int} (P : (Nat → Int) → Prop) (h0 : P fun _ => 0) (ha : ∀ (x y : Nat → Int) (a : Int), P x → P y → P fun j => x j + a * y j) (hr : ∀ r ∈ R, P fun j => r.getD j 0) (h : Spn R x) : P x := by
  induction R generalizing x with
  | nil =>
    have : x = fun _ => 0 := funext h
    rw [this]
    exact h0
  | cons r R ih =>
    obtain ⟨a, h⟩ := h
    have h1 := ih (fun q hq => hr q (List.mem_cons_of_mem _ hq)) h
    have h2 := ha _ _ a h1 (hr r (List.mem_cons_self ..))
    have e : (fun j => x j - a * r.getD j 0 + a * r.getD j 0) = x := funext fun j => by omega
    rwa [e] at h2
/-! ### pivots -/
abbrev Tops := List (Nat × List Int)
abbrev rowsT (T : Tops) : List (List Int) := T.map (·.2)
structure Pv (w : Nat) (p : Nat × List Int) : Prop where
  lt : p.1 < w
  len : p.2.length = w
  zero : ∀ j, j < p.1 → p.2.getD j 0 = 0
  pos : 0 < p.2.getD p.1 0
structure Ech (w : Nat) (T : Tops) : Prop where
  asc : T.Pairwise fun p q => p.1 < q.1
  pv : ∀ p ∈ T, Pv w p
theorem Ech.tail {w : Nat} {p : Nat × List Int} {T : Tops} (h : Ech w (p :: T)) : Ech w T := ⟨(List.pairwise_cons.mp h.asc).2, fun q hq => h.pv q (List.mem_cons_of_mem _ hq)⟩
theorem Ech.head {w : Nat} {p : Nat × List Int} {T : Tops} (h : Ech w (p :: T)) : Pv w p ∧ ∀ q ∈ T, p.1 < q.1 := ⟨h.pv p (List.mem_cons_self ..), (List.pairwise_cons.mp h.asc).1⟩
theorem Ech.cons {w : Nat} {p : Nat × List Int} {T : Tops} (h : Ech w T) (hp : Pv w p) (hl : ∀ q ∈ T, p.1 < q.1) : Ech w (p :: T) := ⟨List.pairwise_cons.mpr ⟨hl, h.asc⟩, fun q hq => by
  rcases List.mem_cons.mp hq with rfl | hq
  · exact hp
  · exact h.pv q hq⟩
/-- what lies in the span of pivots behind c is zero up to c -/
theorem Ech.zero {w c : Nat} : ∀ {T : Tops}, Ech w T → (∀ q ∈ T, c < q.1) → ∀ {x : Nat → Int}, Spn (rowsT T) x → ∀ j, j ≤ c → x j = 0
  | [], _, _, x, h, j, _ => h j
  | p :: T, E, hc, x, ⟨a, h⟩, j, hj => by
    have h1 := Ech.zero E.tail (fun q hq => hc q (List.mem_cons_of_mem _ hq)) h j hj
    have h2 := E.head.1.zero j (by have := hc p (List.mem_cons_self ..); omega)
    rw [h2, Int.mul_zero, Int.sub_zero] at h1
    exact h1
/-- the first item of a combination is a multiple of a pivot -/
theorem Ech.lead {w : Nat} : ∀ {T : Tops}, Ech w T → ∀ {x : Nat → Int} {c : Nat}, Spn (rowsT T) x → (∀ j, j < c → x j = 0) → x c ≠ 0 → ∃ p ∈ T, p.1 = c ∧ p.2.getD c 0 ∣ x c
  | [], _, x, c, h, _, hn => absurd (h c) hn
  | p :: T, E, x, c, ⟨a, h⟩, hz, hn => by
    obtain ⟨hp, hl⟩ := E.head
    have hp1 := Ech.zero E.tail hl h p.1 (Nat.le_refl _)
    have hp1 : x p.1 = a * p.2.getD p.1 0 := by have : x p.1 - a * p.2.getD p.1 0 = 0 := hp1; omega
    by_cases ha : a = 0
    · subst ha
      have e : ∀ j, x j - 0 * p.2.getD j 0 = x j := fun j => by rw [Int.zero_mul, Int.sub_zero]
      obtain ⟨q, hq, e1, e2⟩ := Ech.lead E.tail (h.cong e) hz hn
      exact ⟨q, List.mem_cons_of_mem _ hq, e1, e2⟩
    · have h0 : x p.1 ≠ 0 := by
        rw [hp1]
        exact Int.mul_ne_zero ha (by have := hp.pos; omega)
      have h1 : ∀ j, j < p.1 → x j = 0 := fun j hj => by
        have h2 : x j - a * p.2.getD j 0 = 0 := Ech.zero E.tail hl h j (by omega)
        rw [hp.zero j hj, Int.mul_zero, Int.sub_zero] at h2
        exact h2
      have ec : p.1 = c := by
        rcases Nat.lt_trichotomy p.1 c with hlt | heq | hgt
        · exact absurd (hz _ hlt) h0
        · exact heq
        · exact absurd (h1 c hgt) hn
      subst ec
      exact ⟨p, List.mem_cons_self .., rfl, ⟨a, by rw [hp1, Int.mul_comm]⟩⟩
/-- each pivot is in the range of those behind it -/
def Tid : Tops → Prop
  | [] => True
  | p :: T => (∀ q ∈ T, 0 ≤ p.2.getD q.1 0 ∧ p.2.getD q.1 0 < q.2.getD q.1 0) ∧ Tid T
/-- the Hermite form is one alone -/
theorem herm_uniq {w : Nat} : ∀ {T S : Tops}, Ech w T → Ech w S → Tid T → Tid S → (∀ x, Spn (rowsT T) x ↔ Spn (rowsT S) x) → T = S
  | [], [], _, _, _, _, _ => rfl
  | [], q :: S, _, E', _, _, h => by
    obtain ⟨hq, _⟩ := E'.head
    have h1 : Spn (rowsT ([] : Tops)) (fun j => q.2.getD j 0) := (h _).mpr (Spn.head _ _)
    have h2 : q.2.getD q.1 0 = 0 := h1 q.1
    have h3 := hq.pos
    omega
  | p :: T, [], E, _, _, _, h => by
    obtain ⟨hq, _⟩ := E.head
    have h1 : Spn (rowsT ([] : Tops)) (fun j => p.2.getD j 0) := (h _).mp (Spn.head _ _)
    have h2 : p.2.getD p.1 0 = 0 := h1 p.1
    have h3 := hq.pos
    omega
  | p :: T, q :: S, E, E', t, t', h => by
    obtain ⟨hp, hpl⟩ := E.head
    obtain ⟨hq, hql⟩ := E'.head
    -- the first pivot of one is a pivot of the other
    have side : ∀ {p q : Nat × List Int} {T S : Tops}, Ech w (p :: T) → Ech w (q :: S) → (∀ x, Spn (rowsT (p :: T)) x ↔ Spn (rowsT (q :: S)) x) → q.1 ≤ p.1 := fun {p q T S} E E' h => by
      obtain ⟨hp, hpl⟩ := E.head
      have h1 := (h _).mp (Spn.head (rowsT T) p.2)
      obtain ⟨r, hr, er, _⟩ := Ech.lead E' h1 (fun j hj => hp.zero j hj) (by have := hp.pos; omega)
      rcases List.mem_cons.mp hr with rfl | hr
      · omega
      · have := E'.head.2 r hr
        omega
    have ec : p.1 = q.1 := Nat.le_antisymm (side E' E fun x => (h x).symm) (side E E' h)
    -- and of the same size
    have dv : ∀ {p q : Nat × List Int} {T S : Tops}, Ech w (p :: T) → Ech w (q :: S) → (∀ x, Spn (rowsT (p :: T)) x ↔ Spn (rowsT (q :: S)) x) → p.1 = q.1 → q.2.getD q.1 0 ∣ p.2.getD p.1 0 := fun {p q T S} E E' h ec => by
      obtain ⟨hp, hpl⟩ := E.head
      have h1 := (h _).mp (Spn.head (rowsT T) p.2)
      obtain ⟨r, hr, er, hd⟩ := Ech.lead E' h1 (fun j hj => hp.zero j hj) (by have := hp.pos; omega)
      rcases List.mem_cons.mp hr with rfl | hr
      · rw [← er] at hd ⊢
        exact hd
      · have := E'.head.2 r hr
        omega
    have ep : p.2.getD p.1 0 = q.2.getD q.1 0 := by
      have d1 := dv E E' h ec
      have d2 := dv E' E (fun x => (h x).symm) ec.symm
      exact Int.dvd_antisymm (Int.le_of_lt hp.pos) (Int.le_of_lt hq.pos) d2 d1
    -- the rest spans the same
    have rest : ∀ {p q : Nat × List Int} {T S : Tops}, Ech w (p :: T) → Ech w (q :: S) → (∀ x, Spn (rowsT (p :: T)) x → Spn (rowsT (q :: S)) x) → p.1 = q.1 → ∀ x, Spn (rowsT T) x → Spn (rowsT S) x := fun {p q T S} E E' h ec x hx => by
      obtain ⟨hp, hpl⟩ := E.head
      obtain ⟨hq, hql⟩ := E'.head
      have x0 := Ech.zero E.tail hpl hx p.1 (Nat.le_refl _)
      obtain ⟨a, ha⟩ := h x hx.tail
      have h1 : x q.1 - a * q.2.getD q.1 0 = 0 := Ech.zero E'.tail hql ha q.1 (Nat.le_refl _)
      rw [← ec, x0] at h1
      have a0 : a = 0 := by
        rcases Int.mul_eq_zero.mp (show a * q.2.getD q.1 0 = 0 by rw [ec] at h1; omega) with h2 | h2
        · exact h2
        · have := hq.pos
          omega
      subst a0
      exact ha.cong fun j => by rw [Int.zero_mul, Int.sub_zero]
    have hT : ∀ x, Spn (rowsT T) x ↔ Spn (rowsT S) x := fun x => ⟨rest E E' (fun x => (h x).mp) ec x, rest E' E (fun x => (h x).mpr) ec.symm x⟩
    have eT := herm_uniq E.tail E'.tail t.2 t'.2 hT
    subst eT
    -- the first rows
    have hd : Spn (rowsT T) (fun j => p.2.getD j 0 - q.2.getD j 0) := by
      obtain ⟨a, ha⟩ := (h _).mp (Spn.head (rowsT T) p.2)
      have h1 : p.2.getD q.1 0 - a * q.2.getD q.1 0 = 0 := Ech.zero E.tail hql ha q.1 (Nat.le_refl _)
      have a1 : a = 1 := by
        rw [← ec, ep, ec] at h1
        have hq0 := hq.pos
        have : (1 - a) * q.2.getD q.1 0 = 0 := by rw [Int.sub_mul, Int.one_mul]; exact h1
        rcases Int.mul_eq_zero.mp this with h2 | h2
        · omega
        · omega
      subst a1
      exact ha.cong fun j => by rw [Int.one_mul]
    have hz : ∀ j, p.2.getD j 0 - q.2.getD j 0 = 0 := by
      by_cases hall : ∀ j, p.2.getD j 0 - q.2.getD j 0 = 0
      · exact hall
      · exfalso
        have hex : ∃ j, p.2.getD j 0 - q.2.getD j 0 ≠ 0 := Classical.not_forall.mp hall
        -- the least one
        have least : ∀ n, (∃ j, j < n ∧ p.2.getD j 0 - q.2.getD j 0 ≠ 0) → ∃ c, p.2.getD c 0 - q.2.getD c 0 ≠ 0 ∧ ∀ j, j < c → p.2.getD j 0 - q.2.getD j 0 = 0 := fun n => by
          induction n with
          | zero => rintro ⟨j, hj, _⟩; exact absurd hj (Nat.not_lt_zero _)
          | succ n ih =>
            rintro ⟨j, hj, hn⟩
            by_cases hs : ∃ j, j < n ∧ p.2.getD j 0 - q.2.getD j 0 ≠ 0
            · exact ih hs
            · refine ⟨j, hn, fun k hk => ?_⟩
              by_cases hk0 : p.2.getD k 0 - q.2.getD k 0 = 0
              · exact hk0
              · exact absurd ⟨k, by omega, hk0⟩ hs
        obtain ⟨j, hj⟩ := hex
        obtain ⟨c, hc, hl⟩ := least (j + 1) ⟨j, Nat.lt_succ_self _, hj⟩
        obtain ⟨r, hr, er, ⟨k, hk⟩⟩ := Ech.lead E.tail hd hl hc
        have b1 := t.1 r hr
        have b2 := t'.1 r hr
        rw [er] at b1 b2
        have hk0 : k = 0 := by
          rcases Int.lt_trichotomy k 0 with h1 | h1 | h1
          · have : r.2.getD c 0 * k ≤ r.2.getD c 0 * (-1) := Int.mul_le_mul_of_nonneg_left (by omega) (by omega)
            omega
          · exact h1
          · have : r.2.getD c 0 * 1 ≤ r.2.getD c 0 * k := Int.mul_le_mul_of_nonneg_left (by omega) (by omega)
            omega
        rw [hk0, Int.mul_zero] at hk
        exact hc hk
    have er : p.2 = q.2 := list_ext hp.len hq.len fun j => by have := hz j; omega
    have : p = q := by
      cases p
      cases q
      simp only at ec er
      rw [ec, er]
    rw [this]
end Gm
/-! a tuple read backwards by a slice -/
namespace Gm
open PySem PySem.Spec PyProof.Rows L2 HT
section
variable {prog : Program} {w : World} {A : Around} {E : Value → Shared → Prop} {s : Shared}
theorem back_applied {sl : Addr} {vl vu vs : Value} {n : Nat} {Q : Int × Int × Nat → Shared → Prop} (hs : s.heap.IsSliceOf sl vl vu vs) (pl : IsPart vl none) (pu : IsPart vu none) (ps : IsPart vs (some (-1)))
    (h : Q ((n : Int) - 1, -1, n) s) : wpAny (model prog w) A (Builtin.Slice.sliceApplied (.ref sl) (pure (n : Int))) Q E s := by
  obtain ⟨os, hos, hcs, hds⟩ := id hs
  unfold Builtin.Slice.sliceApplied Builtin.Slice.sliceFields
  refine wpAny_bind (wpAny_bind (wpAny_field hos hds (x := vl) rfl (wpAny_bind (wpAny_field hos hds (x := vu) rfl (wpAny_bind (wpAny_field hos hds (x := vs) rfl (wpAny_pure ?_)))))))
  refine wpAny_bind (slicePart_ ps ?_)
  show wpAny _ _ (if ((-1 : Int) == 0) = true then _ else _) _ _ s
  rw [if_neg (by decide)]
  refine wpAny_bind (slicePart_ pl (wpAny_bind (slicePart_ pu (wpAny_bind (wpAny_pure ?_)))))
  have e1 : Builtin.Slice.sliceAdjust none none (-1) (n : Int) = ((n : Int) - 1, -1) := rfl
  have e2 : Builtin.Slice.slicePlaces ((n : Int) - 1) (-1) (-1) = n := by
    unfold Builtin.Slice.slicePlaces
    rw [if_neg (show ¬ ((-1 : Int) > 0) by decide)]
    by_cases h0 : (n : Int) - 1 > -1
    · rw [if_pos h0, show -(-1 : Int) = 1 from rfl, Int.ediv_one]
      omega
    · rw [if_neg h0]
      omega
  show wpAny _ _ (match Builtin.Slice.sliceAdjust none none (-1) (n : Int) with | (lo, hi) => pure (lo, (-1 : Int), Builtin.Slice.slicePlaces lo hi (-1))) _ _ s
  rw [e1]
  show wpAny _ _ (pure ((n : Int) - 1, (-1 : Int), Builtin.Slice.slicePlaces ((n : Int) - 1) (-1) (-1))) _ _ s
  rw [e2]
  exact wpAny_pure h
theorem fm_map {α β : Type} {f : α → Option β} {g : α → β} : ∀ {l : List α}, (∀ m ∈ l, f m = some (g m)) → l.filterMap f = l.map g
  | [], _ => rfl
  | a :: l, h => by
    rw [List.filterMap_cons, h a (List.mem_cons_self ..), List.map_cons, fm_map fun m hm => h m (List.mem_cons_of_mem _ hm)]
theorem back_pick (xs : Array Value) : ((List.range xs.size).filterMap fun (m : Nat) => xs[((xs.size : Int) - 1 + (m : Int) * (-1)).toNat]?).toArray = xs.toList.reverse.toArray := by
  congr 1
  have e : ∀ m ∈ List.range xs.size, xs[((xs.size : Int) - 1 + (m : Int) * (-1)).toNat]? = some (xs.toList.reverse.getD m .none) := fun m hm => by
    have hm' := List.mem_range.mp hm
    have e1 : ((xs.size : Int) - 1 + (m : Int) * (-1)).toNat = xs.size - 1 - m := by omega
    have hl : m < xs.toList.reverse.length := by rw [List.length_reverse, Array.length_toList]; exact hm'
    rw [e1, List.getD_eq_getElem?_getD, List.getElem?_eq_getElem hl, List.getElem_reverse]
    simp only [Array.length_toList, Option.getD_some, Array.getElem_toList]
    rw [Array.getElem?_eq_getElem (by omega)]
  rw [fm_map e]
  apply List.ext_getElem?
  intro i
  rw [List.getElem?_map]
  by_cases hi : i < xs.size
  · have hl : i < xs.toList.reverse.length := by rw [List.length_reverse, Array.length_toList]; exact hi
    rw [List.getElem?_range hi, List.getElem?_eq_getElem hl]
    show some (xs.toList.reverse.getD i .none) = _
    rw [List.getD_eq_getElem?_getD, List.getElem?_eq_getElem hl]
    rfl
  · rw [List.getElem?_eq_none (by rw [List.length_range]; omega), List.getElem?_eq_none (by rw [List.length_reverse, Array.length_toList]; omega)]
    rfl
theorem back_tuple {t sl : Addr} {items : Array Value} {vl vu vs : Value} {Q : Value → Shared → Prop} (ht : IsTup s.heap t items) (hs : s.heap.IsSliceOf sl vl vu vs) (pl : IsPart vl none) (pu : IsPart vu none) (ps : IsPart vs (some (-1)))
    (h : Q (.ref s.heap.objs.size) { s with heap := s.heap.push { cls := .type "tuple", data := .seq items.toList.reverse.toArray } }) (hsz : items.size ≤ sizeLine) : wpAny (model prog w) A (getItem (.ref t) (.ref sl)) Q E s := by
  obtain ⟨os, hos, hcs, hds⟩ := id hs
  have hTs : s.TypeIs (.ref sl) "slice" := ⟨os, hos, hcs⟩
  have hok : sizeOk (.seq items.toList.reverse.toArray) := by
    show items.toList.reverse.toArray.size ≤ sizeLine
    rw [List.size_toArray, List.length_reverse, Array.length_toList]
    exact hsz
  unfold getItem
  try with_reducible refine wpAny_holding ?_
  first | refine wpAny_bind (wpAny_pure ?_) | skip
  refine wpAny_bind (wpAny_sequenceKey ht.typeIs (by decide) ?_)
  refine wpAny_bind (wpAny_callSpecial?_slot (name := Str.ofString "__getitem__") ht.typeIs PyProof.Rows.slot_tuple_getitem (wpAny_call_entry PyProof.Rows.slot_tuple_getitem ht.typeIs entry_tuple_getitem ?_ (args_tuple_getitem _ _)))
  show wpAny _ _ (Builtin.Tuple.tupleItemsOf (.ref t) >>= _) _ _ s
  refine wpAny_bind (tupleItemsOf_ ht ?_)
  refine wpAny_bind (wpAny_typeOf hTs ?_)
  rw [if_pos (by decide)]
  refine wpAny_bind (back_applied (n := items.size) hs pl pu ps ?_)
  have hno : ¬ ((((items.size : Int) - 1) == 0 && (-1 : Int) == 1 && items.size == items.size) = true) := by
    rw [Bool.and_eq_true, Bool.and_eq_true]
    exact fun q => absurd q.1.2 (by decide)
  show wpAny _ _ (if (((items.size : Int) - 1) == 0 && (-1 : Int) == 1 && items.size == items.size) = true then _ else _) _ _ s
  rw [if_neg hno, back_pick]
  first
    | exact wpAny_bind (m := Builtin.Tuple.tupleExact _) (wpAny_newObj_type (wpAny_pure ⟨_, rfl, wpAny_pure h⟩) hok)
    | exact wpAny_bind (m := Builtin.Tuple.tupleExact _) (wpAny_newObj_type (wpAny_bind (wpAny_pure (wpAny_pure ⟨_, rfl, wpAny_pure h⟩))) hok)
    | exact wpAny_bind (wpAny_bind (m := Builtin.Tuple.tupleExact _) (wpAny_newObj_type (wpAny_pure (wpAny_pure ⟨_, rfl, wpAny_pure h⟩)) hok))
    | exact wpAny_bind (wpAny_bind (m := Builtin.Tuple.tupleExact _) (wpAny_newObj_type (wpAny_pure ⟨_, rfl, wpAny_pure h⟩) hok))
end
section
variable {X : Cx}
/-- t[::-1] of a tuple -/
def tBackT (K : PySem.W.Frag) (te : TE) : TE := fun σ H Q => te σ H fun x H1 => ∃ a xs, x = .ref a ∧ SqT K H1 a xs ∧ ∀ p, H1 p = none → Q (.ref p) (upd H1 p (.tup xs.reverse))
theorem pe_backT {e : Expr} {te : TE} {k : Nat} {p1 p2 p3 pos : Pos} (he : PE X e te) : PE X (.Subscript e (.Slice none none (some (.UnaryOp .USub (.Constant (.int 1) k p1) p2)) p3) pos) (tBackT X.K te) := by
  refine ⟨fun pn s σ H Q I h => Subscript_ (thn (he.run pn s σ H _ I h) fun v s1 ⟨x, H1, I1, r1, q1⟩ => ?_)⟩
  obtain ⟨a, xs, ex, hx, q⟩ := q1
  subst ex
  cases r1
  have hst : PO X (some (.UnaryOp .USub (.Constant (.int 1) k p1) p2)) (tPart (tUn (rU fun i => .int (-i)) (tC (.int 1)))) := po_some (pe_un un_neg pe_int)
  refine wpAny_Slice (thn (po_none.run pn s1 σ H1 (fun o H2 => o = none ∧ H2 = H1) I1 ⟨rfl, rfl⟩) fun vl s2 ⟨l, H2, I2, pl, el, e2⟩ => ?_)
  subst el e2
  refine thn (po_none.run pn s2 σ H2 (fun o H3 => o = none ∧ H3 = H2) I2 ⟨rfl, rfl⟩) fun vu s3 ⟨u, H3, I3, pu, eu, e3⟩ => ?_
  subst eu e3
  refine thn (hst.run pn s3 σ H3 (fun o H4 => o = some (-1) ∧ H4 = H3) I3 ⟨1, rfl, -1, rfl, rfl, rfl⟩) fun vs s4 ⟨o, H4, I4, ps, eo, e4⟩ => ?_
  subst eo e4
  have I5 : Inv X pn σ H4 { s4 with heap := s4.heap.push { cls := .type "slice", data := .fields #[vl, vu, vs] } } := I4.kept (t' := s4.toks) fun b ob q => Heap.get?_push_of_some _ q
  obtain ⟨its, r, ht, hz⟩ := I5.tuple hx
  have hlen := r.length
  show wpAny (model X.prog X.w) X.A (subscriptTail e (.Slice none none (some (.UnaryOp .USub (.Constant (.int 1) k p1) p2)) p3) (.ref a) (.ref s4.heap.objs.size)) (EP X pn σ Q) X.xe { s4 with heap := s4.heap.push { cls := .type "slice", data := .fields #[vl, vu, vs] } }
  refine tail_any (ops := [.ref a, .ref s4.heap.objs.size]) ht.typeIs (PyProof.Rows.slot_tuple_getitem.lookup) ?_ (by with_unfolding_all rfl)
  refine back_tuple ht (Heap.IsSliceOf.new _ vl vu vs) pl pu ps ?_ (by rw [List.size_toArray]; omega)
  refine ⟨.ref _, _, I5.laid (t' := s4.toks) (o := .tup xs.reverse) (fun b ob q => Heap.get?_push_of_some _ q) (Nat.le_refl _) ⟨by rw [List.length_reverse]; exact hz, _, r.reverse, IsTup.new _ _⟩, rfl, q _ (I5.hok.fresh (Nat.le_refl _))⟩
theorem backK {e : Expr} {te : TE} {k : Nat} {p1 p2 p3 pos : Pos} (K : PySem.W.Frag) (hK : X.K = K) (he : PE X e te) : PE X (.Subscript e (.Slice none none (some (.UnaryOp .USub (.Constant (.int 1) k p1) p2)) p3) pos) (tBackT K te) := by subst hK; exact pe_backT he
end
end Gm
namespace K39
open PySem PySem.Spec PyProof.Rows L2 Gm
def topS (i : Nat) : Stmt := PySem.Challenge.pw_gridmetric_k39_partings.main.body.getD i (.Pass ⟨0, 0, 0, 0⟩)
abbrev s_is_integer : Stmt := topS 6
theorem sc_is_integer : FnScope ["value"] ["value"] (defScope s_is_integer) := ⟨rfl, rfl, rfl, by decide +kernel, rfl, by decide +kernel, by decide +kernel⟩
abbrev s_cofactors : Stmt := topS 7
theorem sc_cofactors : FnScope ["a", "b", "last", "last_u", "last_v", "g", "u", "v", "times"] ["a", "b"] (defScope s_cofactors) := ⟨rfl, rfl, rfl, by decide +kernel, rfl, by decide +kernel, by decide +kernel⟩
abbrev s_dot : Stmt := topS 8
theorem sc_dot : FnScope ["a", "b", "x", "y"] ["a", "b"] (defScope s_dot) := ⟨rfl, rfl, rfl, by decide +kernel, rfl, by decide +kernel, by decide +kernel⟩
abbrev s_hermite_rows : Stmt := topS 10
theorem sc_hermite_rows : FnScope ["rows", "tops", "row", "column"] ["rows"] (defScope s_hermite_rows) := ⟨rfl, rfl, rfl, by decide +kernel, rfl, by decide +kernel, by decide +kernel⟩
abbrev s_with_row : Stmt := topS 11
theorem sc_with_row : FnScope ["tops", "row", "found", "column", "top", "item"] ["tops", "row"] (defScope s_with_row) := ⟨rfl, rfl, rfl, by decide +kernel, rfl, by decide +kernel, by decide +kernel⟩
abbrev s_merged : Stmt := topS 12
theorem sc_merged : FnScope ["top", "row", "column", "g", "u", "v"] ["top", "row", "column"] (defScope s_merged) := ⟨rfl, rfl, rfl, by decide +kernel, rfl, by decide +kernel, by decide +kernel⟩
abbrev s_mixed : Stmt := topS 13
theorem sc_mixed : FnScope ["a", "first", "b", "second", "x", "y"] ["a", "first", "b", "second"] (defScope s_mixed) := ⟨rfl, rfl, rfl, by decide +kernel, rfl, by decide +kernel, by decide +kernel⟩
abbrev s_tidied : Stmt := topS 14
theorem sc_tidied : FnScope ["tops", "done", "column"] ["tops"] (defScope s_tidied) := ⟨rfl, rfl, rfl, by decide +kernel, rfl, by decide +kernel, by decide +kernel⟩
abbrev s_reduced : Stmt := topS 15
theorem sc_reduced : FnScope ["row", "tops", "column", "top", "times"] ["row", "tops"] (defScope s_reduced) := ⟨rfl, rfl, rfl, by decide +kernel, rfl, by decide +kernel, by decide +kernel⟩
abbrev s_determinant_of : Stmt := topS 17
theorem sc_determinant_of : FnScope ["rows", "sign", "last", "at", "top", "k", "row"] ["rows"] (defScope s_determinant_of) := ⟨rfl, rfl, rfl, by decide +kernel, rfl, by decide +kernel, by decide +kernel⟩
abbrev s_first_with_head : Stmt := topS 18
theorem sc_first_with_head : FnScope ["rows", "k", "row"] ["rows"] (defScope s_first_with_head) := ⟨rfl, rfl, rfl, by decide +kernel, rfl, by decide +kernel, by decide +kernel⟩
abbrev s_cleared : Stmt := topS 19
theorem sc_cleared : FnScope ["top", "row", "last", "k"] ["top", "row", "last"] (defScope s_cleared) := ⟨rfl, rfl, rfl, by decide +kernel, rfl, by decide +kernel, by decide +kernel⟩
abbrev s_Grid_init : Stmt := inClass (topS 21) 0
theorem sc_Grid_init : FnScope ["self", "rows", "width"] ["self", "rows", "width"] (defScope s_Grid_init) := ⟨rfl, rfl, rfl, by decide +kernel, rfl, by decide +kernel, by decide +kernel⟩
abbrev s_Grid_eq : Stmt := inClass (topS 21) 1
theorem sc_Grid_eq : FnScope ["self", "other"] ["self", "other"] (defScope s_Grid_eq) := ⟨rfl, rfl, rfl, by decide +kernel, rfl, by decide +kernel, by decide +kernel⟩
abbrev s_Grid_mul : Stmt := inClass (topS 21) 6
theorem sc_Grid_mul : FnScope ["self", "other", "columns", "row", "column"] ["self", "other"] (defScope s_Grid_mul) := ⟨rfl, rfl, rfl, by decide +kernel, rfl, by decide +kernel, by decide +kernel⟩
abbrev s_Grid_transposed : Stmt := inClass (topS 21) 9
theorem sc_Grid_transposed : FnScope ["self", "places", "k", "row"] ["self"] (defScope s_Grid_transposed) := ⟨rfl, rfl, rfl, by decide +kernel, rfl, by decide +kernel, by decide +kernel⟩
abbrev s_Grid_is_square : Stmt := inClass (topS 21) 13
theorem sc_Grid_is_square : FnScope ["self"] ["self"] (defScope s_Grid_is_square) := ⟨rfl, rfl, rfl, by decide +kernel, rfl, by decide +kernel, by decide +kernel⟩
abbrev s_Grid_determinant : Stmt := inClass (topS 21) 14
theorem sc_Grid_determinant : FnScope ["self"] ["self"] (defScope s_Grid_determinant) := ⟨rfl, rfl, rfl, by decide +kernel, rfl, by decide +kernel, by decide +kernel⟩
abbrev s_Grid_is_unimodular : Stmt := inClass (topS 21) 16
theorem sc_Grid_is_unimodular : FnScope ["self"] ["self"] (defScope s_Grid_is_unimodular) := ⟨rfl, rfl, rfl, by decide +kernel, rfl, by decide +kernel, by decide +kernel⟩
abbrev s_Grid_rank : Stmt := inClass (topS 21) 19
theorem sc_Grid_rank : FnScope ["self"] ["self"] (defScope s_Grid_rank) := ⟨rfl, rfl, rfl, by decide +kernel, rfl, by decide +kernel, by decide +kernel⟩
abbrev s_checked_rows : Stmt := topS 22
theorem sc_checked_rows : FnScope ["rows", "row", "item"] ["rows"] (defScope s_checked_rows) := ⟨rfl, rfl, rfl, by decide +kernel, rfl, by decide +kernel, by decide +kernel⟩
abbrev s_checked_width : Stmt := topS 23
theorem sc_checked_width : FnScope ["rows", "width", "row"] ["rows", "width"] (defScope s_checked_width) := ⟨rfl, rfl, rfl, by decide +kernel, rfl, by decide +kernel, by decide +kernel⟩
abbrev s_check_square : Stmt := topS 25
theorem sc_check_square : FnScope ["a"] ["a"] (defScope s_check_square) := ⟨rfl, rfl, rfl, by decide +kernel, rfl, by decide +kernel, by decide +kernel⟩
abbrev s_Lattice_init : Stmt := inClass (topS 30) 0
theorem sc_Lattice_init : FnScope ["self", "gram"] ["self", "gram"] (defScope s_Lattice_init) := ⟨rfl, rfl, rfl, by decide +kernel, rfl, by decide +kernel, by decide +kernel⟩
abbrev s_Lattice_rank : Stmt := inClass (topS 30) 5
theorem sc_Lattice_rank : FnScope ["self"] ["self"] (defScope s_Lattice_rank) := ⟨rfl, rfl, rfl, by decide +kernel, rfl, by decide +kernel, by decide +kernel⟩
abbrev s_Lattice_determinant : Stmt := inClass (topS 30) 6
theorem sc_Lattice_determinant : FnScope ["self"] ["self"] (defScope s_Lattice_determinant) := ⟨rfl, rfl, rfl, by decide +kernel, rfl, by decide +kernel, by decide +kernel⟩
abbrev s_checked_gram : Stmt := topS 31
theorem sc_checked_gram : FnScope ["gram", "rows", "grid", "row", "item"] ["gram"] (defScope s_checked_gram) := ⟨rfl, rfl, rfl, by decide +kernel, rfl, by decide +kernel, by decide +kernel⟩
abbrev s_is_positive : Stmt := topS 32
theorem sc_is_positive : FnScope ["rows", "sizes", "k", "row"] ["rows"] (defScope s_is_positive) := ⟨rfl, rfl, rfl, by decide +kernel, rfl, by decide +kernel, by decide +kernel⟩
abbrev s_is_parting : Stmt := topS 35
theorem sc_is_parting : FnScope ["lattice", "grids", "n", "pairs", "one", "row", "k", "two"] ["lattice", "grids"] (defScope s_is_parting) := ⟨rfl, rfl, rfl, by decide +kernel, rfl, by decide +kernel, by decide +kernel⟩
abbrev s_is_orthogonal : Stmt := topS 36
theorem sc_is_orthogonal : FnScope ["gram", "one", "two", "products", "row", "item"] ["gram", "one", "two"] (defScope s_is_orthogonal) := ⟨rfl, rfl, rfl, by decide +kernel, rfl, by decide +kernel, by decide +kernel⟩
abbrev s_law_state : Stmt := topS 38
theorem sc_law_state : FnScope ["script", "seed", "total", "cell"] ["script"] (defScope s_law_state) := ⟨rfl, rfl, rfl, by decide +kernel, rfl, by decide +kernel, by decide +kernel⟩
abbrev s_law_take : Stmt := topS 39
theorem sc_law_take : FnScope ["state", "m", "value"] ["state", "m"] (defScope s_law_take) := ⟨rfl, rfl, rfl, by decide +kernel, rfl, by decide +kernel, by decide +kernel⟩
abbrev s_law_unimodular : Stmt := topS 40
theorem sc_law_unimodular : FnScope ["state", "size", "rows", "turn", "i", "j", "c", "x", "k"] ["state", "size"] (defScope s_law_unimodular) := ⟨rfl, rfl, rfl, by decide +kernel, rfl, by decide +kernel, by decide +kernel⟩
abbrev s_law_product : Stmt := topS 41
theorem sc_law_product : FnScope ["gram", "v", "w", "total", "i", "j"] ["gram", "v", "w"] (defScope s_law_product) := ⟨rfl, rfl, rfl, by decide +kernel, rfl, by decide +kernel, by decide +kernel⟩
abbrev s_law_moved : Stmt := topS 42
theorem sc_law_moved : FnScope ["gram", "rows", "v", "w"] ["gram", "rows"] (defScope s_law_moved) := ⟨rfl, rfl, rfl, by decide +kernel, rfl, by decide +kernel, by decide +kernel⟩
abbrev s_law_minor : Stmt := topS 43
theorem sc_law_minor : FnScope ["rows", "i", "j", "row"] ["rows", "i", "j"] (defScope s_law_minor) := ⟨rfl, rfl, rfl, by decide +kernel, rfl, by decide +kernel, by decide +kernel⟩
abbrev s_law_determinant : Stmt := topS 44
theorem sc_law_determinant : FnScope ["rows", "total", "j", "part"] ["rows"] (defScope s_law_determinant) := ⟨rfl, rfl, rfl, by decide +kernel, rfl, by decide +kernel, by decide +kernel⟩
abbrev s_law_blocks : Stmt := topS 45
theorem sc_law_blocks : FnScope ["state", "blocks_v", "size", "turn", "a", "b"] ["state"] (defScope s_law_blocks) := ⟨rfl, rfl, rfl, by decide +kernel, rfl, by decide +kernel, by decide +kernel⟩
abbrev s_law_joined : Stmt := topS 46
theorem sc_law_joined : FnScope ["blocks_v", "size", "rows", "at", "block", "i", "j"] ["blocks_v"] (defScope s_law_joined) := ⟨rfl, rfl, rfl, by decide +kernel, rfl, by decide +kernel, by decide +kernel⟩
abbrev s_law_basis : Stmt := topS 47
theorem sc_law_basis : FnScope ["state", "gram", "size", "rows", "moved", "k", "i", "j"] ["state", "gram"] (defScope s_law_basis) := ⟨rfl, rfl, rfl, by decide +kernel, rfl, by decide +kernel, by decide +kernel⟩
abbrev s_law_inverse : Stmt := topS 48
theorem sc_law_inverse : FnScope ["rows", "size", "d", "found", "i", "line", "j", "sign"] ["rows"] (defScope s_law_inverse) := ⟨rfl, rfl, rfl, by decide +kernel, rfl, by decide +kernel, by decide +kernel⟩
abbrev s_law_spoilt : Stmt := topS 49
theorem sc_law_spoilt : FnScope ["lattice", "grids", "pick", "size", "first", "item", "row"] ["lattice", "grids", "pick"] (defScope s_law_spoilt) := ⟨rfl, rfl, rfl, by decide +kernel, rfl, by decide +kernel, by decide +kernel⟩
abbrev s_law : Stmt := topS 50
theorem sc_law : FnScope ["script", "state", "blocks_v", "gram", "rows", "back", "lattice", "grids", "at", "block", "images", "both", "mixed_v", "bent", "k"] ["script"] (defScope s_law) := ⟨rfl, rfl, rfl, by decide +kernel, rfl, by decide +kernel, by decide +kernel⟩
structure Top (K : PySem.W.Frag) (mg : Str → Option Value) where
  a_is_integer : Addr
  a_cofactors : Addr
  a_dot : Addr
  a_hermite_rows : Addr
  a_with_row : Addr
  a_merged : Addr
  a_mixed : Addr
  a_tidied : Addr
  a_reduced : Addr
  a_determinant_of : Addr
  a_first_with_head : Addr
  a_cleared : Addr
  a_Grid_init : Addr
  a_Grid_eq : Addr
  a_Grid_mul : Addr
  a_Grid_transposed : Addr
  a_Grid_is_square : Addr
  a_Grid_determinant : Addr
  a_Grid_is_unimodular : Addr
  a_Grid_rank : Addr
  a_checked_rows : Addr
  a_checked_width : Addr
  a_check_square : Addr
  a_Lattice_init : Addr
  a_Lattice_rank : Addr
  a_Lattice_determinant : Addr
  a_checked_gram : Addr
  a_is_positive : Addr
  a_is_parting : Addr
  a_is_orthogonal : Addr
  a_law_state : Addr
  a_law_take : Addr
  a_law_unimodular : Addr
  a_law_product : Addr
  a_law_moved : Addr
  a_law_minor : Addr
  a_law_determinant : Addr
  a_law_blocks : Addr
  a_law_joined : Addr
  a_law_basis : Addr
  a_law_inverse : Addr
  a_law_spoilt : Addr
  a_law : Addr
  k_MOST : Tok
  k_MOST_ROWS : Tok
  d_is_integer : FuncData
  d_cofactors : FuncData
  d_dot : FuncData
  d_hermite_rows : FuncData
  d_with_row : FuncData
  d_merged : FuncData
  d_mixed : FuncData
  d_tidied : FuncData
  d_reduced : FuncData
  d_determinant_of : FuncData
  d_first_with_head : FuncData
  d_cleared : FuncData
  d_Grid_init : FuncData
  d_Grid_eq : FuncData
  d_Grid_mul : FuncData
  d_Grid_transposed : FuncData
  d_Grid_is_square : FuncData
  d_Grid_determinant : FuncData
  d_Grid_is_unimodular : FuncData
  d_Grid_rank : FuncData
  d_checked_rows : FuncData
  d_checked_width : FuncData
  d_check_square : FuncData
  d_Lattice_init : FuncData
  d_Lattice_rank : FuncData
  d_Lattice_determinant : FuncData
  d_checked_gram : FuncData
  d_is_positive : FuncData
  d_is_parting : FuncData
  d_is_orthogonal : FuncData
  d_law_state : FuncData
  d_law_take : FuncData
  d_law_unimodular : FuncData
  d_law_product : FuncData
  d_law_moved : FuncData
  d_law_minor : FuncData
  d_law_determinant : FuncData
  d_law_blocks : FuncData
  d_law_joined : FuncData
  d_law_basis : FuncData
  d_law_inverse : FuncData
  d_law_spoilt : FuncData
  d_law : FuncData
  C_Grid : Addr
  C_Lattice : Addr
  X_Malformed : Addr
  F_is_integer : Fun K "is_integer" "is_integer" s_is_integer a_is_integer d_is_integer
  b_is_integer : Binds K d_is_integer ["value"] []
  g_is_integer : mg "is_integer" = some (.ref a_is_integer)
  F_cofactors : Fun K "cofactors" "cofactors" s_cofactors a_cofactors d_cofactors
  b_cofactors : Binds K d_cofactors ["a", "b"] []
  g_cofactors : mg "cofactors" = some (.ref a_cofactors)
  F_dot : Fun K "dot" "dot" s_dot a_dot d_dot
  b_dot : Binds K d_dot ["a", "b"] []
  g_dot : mg "dot" = some (.ref a_dot)
  F_hermite_rows : Fun K "hermite_rows" "hermite_rows" s_hermite_rows a_hermite_rows d_hermite_rows
  b_hermite_rows : Binds K d_hermite_rows ["rows"] []
  g_hermite_rows : mg "hermite_rows" = some (.ref a_hermite_rows)
  F_with_row : Fun K "with_row" "with_row" s_with_row a_with_row d_with_row
  b_with_row : Binds K d_with_row ["tops", "row"] []
  g_with_row : mg "with_row" = some (.ref a_with_row)
  F_merged : Fun K "merged" "merged" s_merged a_merged d_merged
  b_merged : Binds K d_merged ["top", "row", "column"] []
  g_merged : mg "merged" = some (.ref a_merged)
  F_mixed : Fun K "mixed" "mixed" s_mixed a_mixed d_mixed
  b_mixed : Binds K d_mixed ["a", "first", "b", "second"] []
  g_mixed : mg "mixed" = some (.ref a_mixed)
  F_tidied : Fun K "tidied" "tidied" s_tidied a_tidied d_tidied
  b_tidied : Binds K d_tidied ["tops"] []
  g_tidied : mg "tidied" = some (.ref a_tidied)
  F_reduced : Fun K "reduced" "reduced" s_reduced a_reduced d_reduced
  b_reduced : Binds K d_reduced ["row", "tops"] []
  g_reduced : mg "reduced" = some (.ref a_reduced)
  F_determinant_of : Fun K "determinant_of" "determinant_of" s_determinant_of a_determinant_of d_determinant_of
  b_determinant_of : Binds K d_determinant_of ["rows"] []
  g_determinant_of : mg "determinant_of" = some (.ref a_determinant_of)
  F_first_with_head : Fun K "first_with_head" "first_with_head" s_first_with_head a_first_with_head d_first_with_head
  b_first_with_head : Binds K d_first_with_head ["rows"] []
  g_first_with_head : mg "first_with_head" = some (.ref a_first_with_head)
  F_cleared : Fun K "cleared" "cleared" s_cleared a_cleared d_cleared
  b_cleared : Binds K d_cleared ["top", "row", "last"] []
  g_cleared : mg "cleared" = some (.ref a_cleared)
  F_Grid_init : FunD K "__init__" "Grid.__init__" (defArgs s_Grid_init) (defBody s_Grid_init) (defScope s_Grid_init) [.non] [] a_Grid_init d_Grid_init
  b_Grid_init : Binds K d_Grid_init ["self", "rows", "width"] []
  F_Grid_eq : Fun K "__eq__" "Grid.__eq__" s_Grid_eq a_Grid_eq d_Grid_eq
  b_Grid_eq : Binds K d_Grid_eq ["self", "other"] []
  m_Grid_eq : Meth K C_Grid "__eq__" a_Grid_eq
  F_Grid_mul : Fun K "__mul__" "Grid.__mul__" s_Grid_mul a_Grid_mul d_Grid_mul
  b_Grid_mul : Binds K d_Grid_mul ["self", "other"] []
  m_Grid_mul : Meth K C_Grid "__mul__" a_Grid_mul
  F_Grid_transposed : Fun K "transposed" "Grid.transposed" s_Grid_transposed a_Grid_transposed d_Grid_transposed
  b_Grid_transposed : Binds K d_Grid_transposed ["self"] []
  m_Grid_transposed : Meth K C_Grid "transposed" a_Grid_transposed
  F_Grid_is_square : Fun K "is_square" "Grid.is_square" s_Grid_is_square a_Grid_is_square d_Grid_is_square
  b_Grid_is_square : Binds K d_Grid_is_square ["self"] []
  m_Grid_is_square : Meth K C_Grid "is_square" a_Grid_is_square
  F_Grid_determinant : Fun K "determinant" "Grid.determinant" s_Grid_determinant a_Grid_determinant d_Grid_determinant
  b_Grid_determinant : Binds K d_Grid_determinant ["self"] []
  m_Grid_determinant : Meth K C_Grid "determinant" a_Grid_determinant
  F_Grid_is_unimodular : Fun K "is_unimodular" "Grid.is_unimodular" s_Grid_is_unimodular a_Grid_is_unimodular d_Grid_is_unimodular
  b_Grid_is_unimodular : Binds K d_Grid_is_unimodular ["self"] []
  m_Grid_is_unimodular : Meth K C_Grid "is_unimodular" a_Grid_is_unimodular
  F_Grid_rank : Fun K "rank" "Grid.rank" s_Grid_rank a_Grid_rank d_Grid_rank
  b_Grid_rank : Binds K d_Grid_rank ["self"] []
  m_Grid_rank : Meth K C_Grid "rank" a_Grid_rank
  F_checked_rows : Fun K "checked_rows" "checked_rows" s_checked_rows a_checked_rows d_checked_rows
  b_checked_rows : Binds K d_checked_rows ["rows"] []
  g_checked_rows : mg "checked_rows" = some (.ref a_checked_rows)
  F_checked_width : Fun K "checked_width" "checked_width" s_checked_width a_checked_width d_checked_width
  b_checked_width : Binds K d_checked_width ["rows", "width"] []
  g_checked_width : mg "checked_width" = some (.ref a_checked_width)
  F_check_square : Fun K "check_square" "check_square" s_check_square a_check_square d_check_square
  b_check_square : Binds K d_check_square ["a"] []
  g_check_square : mg "check_square" = some (.ref a_check_square)
  F_Lattice_init : Fun K "__init__" "Lattice.__init__" s_Lattice_init a_Lattice_init d_Lattice_init
  b_Lattice_init : Binds K d_Lattice_init ["self", "gram"] []
  F_Lattice_rank : Fun K "rank" "Lattice.rank" s_Lattice_rank a_Lattice_rank d_Lattice_rank
  b_Lattice_rank : Binds K d_Lattice_rank ["self"] []
  m_Lattice_rank : Meth K C_Lattice "rank" a_Lattice_rank
  F_Lattice_determinant : Fun K "determinant" "Lattice.determinant" s_Lattice_determinant a_Lattice_determinant d_Lattice_determinant
  b_Lattice_determinant : Binds K d_Lattice_determinant ["self"] []
  m_Lattice_determinant : Meth K C_Lattice "determinant" a_Lattice_determinant
  F_checked_gram : Fun K "checked_gram" "checked_gram" s_checked_gram a_checked_gram d_checked_gram
  b_checked_gram : Binds K d_checked_gram ["gram"] []
  g_checked_gram : mg "checked_gram" = some (.ref a_checked_gram)
  F_is_positive : Fun K "is_positive" "is_positive" s_is_positive a_is_positive d_is_positive
  b_is_positive : Binds K d_is_positive ["rows"] []
  g_is_positive : mg "is_positive" = some (.ref a_is_positive)
  F_is_parting : Fun K "is_parting" "is_parting" s_is_parting a_is_parting d_is_parting
  b_is_parting : Binds K d_is_parting ["lattice", "grids"] []
  g_is_parting : mg "is_parting" = some (.ref a_is_parting)
  F_is_orthogonal : Fun K "is_orthogonal" "is_orthogonal" s_is_orthogonal a_is_orthogonal d_is_orthogonal
  b_is_orthogonal : Binds K d_is_orthogonal ["gram", "one", "two"] []
  g_is_orthogonal : mg "is_orthogonal" = some (.ref a_is_orthogonal)
  F_law_state : Fun K "_law_state" "_law_state" s_law_state a_law_state d_law_state
  b_law_state : Binds K d_law_state ["script"] []
  g_law_state : mg "_law_state" = some (.ref a_law_state)
  F_law_take : Fun K "_law_take" "_law_take" s_law_take a_law_take d_law_take
  b_law_take : Binds K d_law_take ["state", "m"] []
  g_law_take : mg "_law_take" = some (.ref a_law_take)
  F_law_unimodular : Fun K "_law_unimodular" "_law_unimodular" s_law_unimodular a_law_unimodular d_law_unimodular
  b_law_unimodular : Binds K d_law_unimodular ["state", "size"] []
  g_law_unimodular : mg "_law_unimodular" = some (.ref a_law_unimodular)
  F_law_product : Fun K "_law_product" "_law_product" s_law_product a_law_product d_law_product
  b_law_product : Binds K d_law_product ["gram", "v", "w"] []
  g_law_product : mg "_law_product" = some (.ref a_law_product)
  F_law_moved : Fun K "_law_moved" "_law_moved" s_law_moved a_law_moved d_law_moved
  b_law_moved : Binds K d_law_moved ["gram", "rows"] []
  g_law_moved : mg "_law_moved" = some (.ref a_law_moved)
  F_law_minor : Fun K "_law_minor" "_law_minor" s_law_minor a_law_minor d_law_minor
  b_law_minor : Binds K d_law_minor ["rows", "i", "j"] []
  g_law_minor : mg "_law_minor" = some (.ref a_law_minor)
  F_law_determinant : Fun K "_law_determinant" "_law_determinant" s_law_determinant a_law_determinant d_law_determinant
  b_law_determinant : Binds K d_law_determinant ["rows"] []
  g_law_determinant : mg "_law_determinant" = some (.ref a_law_determinant)
  F_law_blocks : Fun K "_law_blocks" "_law_blocks" s_law_blocks a_law_blocks d_law_blocks
  b_law_blocks : Binds K d_law_blocks ["state"] []
  g_law_blocks : mg "_law_blocks" = some (.ref a_law_blocks)
  F_law_joined : Fun K "_law_joined" "_law_joined" s_law_joined a_law_joined d_law_joined
  b_law_joined : Binds K d_law_joined ["blocks_v"] []
  g_law_joined : mg "_law_joined" = some (.ref a_law_joined)
  F_law_basis : Fun K "_law_basis" "_law_basis" s_law_basis a_law_basis d_law_basis
  b_law_basis : Binds K d_law_basis ["state", "gram"] []
  g_law_basis : mg "_law_basis" = some (.ref a_law_basis)
  F_law_inverse : Fun K "_law_inverse" "_law_inverse" s_law_inverse a_law_inverse d_law_inverse
  b_law_inverse : Binds K d_law_inverse ["rows"] []
  g_law_inverse : mg "_law_inverse" = some (.ref a_law_inverse)
  F_law_spoilt : Fun K "_law_spoilt" "_law_spoilt" s_law_spoilt a_law_spoilt d_law_spoilt
  b_law_spoilt : Binds K d_law_spoilt ["lattice", "grids", "pick"] []
  g_law_spoilt : mg "_law_spoilt" = some (.ref a_law_spoilt)
  F_law : Fun K "law" "law" s_law a_law d_law
  b_law : Binds K d_law ["script"] []
  g_law : mg "law" = some (.ref a_law)
  g_Grid : mg "Grid" = some (.ref C_Grid)
  cl_Grid : Cls K C_Grid
  mk_Grid : Mk K C_Grid a_Grid_init
  n_rows : NoAttr K C_Grid "rows"
  n_width : NoAttr K C_Grid "width"
  sf_Grid : PySem.W.selfFirst K C_Grid = true
  kc_Grid : PySem.W.findIn K (.ref C_Grid) "__class__" = some (some (.builtin "object.__class__"))
  kg_Grid : PySem.W.specialIn K (.builtin "object.__class__") "__get__" = some (some (.builtin "getset_descriptor.__get__"))
  kt_Grid : PySem.W.takesIn K (.builtin "object.__class__") = some true
  km_Grid : PySem.W.mroIn K C_Grid (.type "object") = some true
  ty_Grid : PySem.W.typeIn K (.ref C_Grid) = some (.type "type")
  ic_Grid : PySem.W.isClsIn K C_Grid = true
  ne_Grid : PySem.W.findIn K (.ref C_Grid) "__ne__" = some (some (.builtin "object.__ne__"))
  g_Lattice : mg "Lattice" = some (.ref C_Lattice)
  cl_Lattice : Cls K C_Lattice
  mk_Lattice : Mk K C_Lattice a_Lattice_init
  n_gram : NoAttr K C_Lattice "gram"
  sf_Lattice : PySem.W.selfFirst K C_Lattice = true
  kc_Lattice : PySem.W.findIn K (.ref C_Lattice) "__class__" = some (some (.builtin "object.__class__"))
  kg_Lattice : PySem.W.specialIn K (.builtin "object.__class__") "__get__" = some (some (.builtin "getset_descriptor.__get__"))
  kt_Lattice : PySem.W.takesIn K (.builtin "object.__class__") = some true
  km_Lattice : PySem.W.mroIn K C_Lattice (.type "object") = some true
  ty_Lattice : PySem.W.typeIn K (.ref C_Lattice) = some (.type "type")
  ic_Lattice : PySem.W.isClsIn K C_Lattice = true
  ne_Lattice : PySem.W.findIn K (.ref C_Lattice) "__ne__" = some (some (.builtin "object.__ne__"))
  sub_GL : PySem.W.subIn K (.ref C_Grid) (.ref C_Lattice) = some false
  se_L : PySem.W.subIn K (.ref C_Lattice) (.ref C_Lattice) = some true
  sub_GT : PySem.W.subIn K (.ref C_Grid) (.type "tuple") = some false
  z_ValueError : mg "ValueError" = none
  z_abs : mg "abs" = none
  z_all : mg "all" = none
  z_any : mg "any" = none
  z_bool : mg "bool" = none
  z_dict : mg "dict" = none
  z_enumerate : mg "enumerate" = none
  z_int : mg "int" = none
  z_isinstance : mg "isinstance" = none
  z_len : mg "len" = none
  z_list : mg "list" = none
  z_max : mg "max" = none
  z_range : mg "range" = none
  z_sorted : mg "sorted" = none
  z_sum : mg "sum" = none
  z_tuple : mg "tuple" = none
  z_zip : mg "zip" = none
  g_MOST : mg "MOST" = some (.int 10000 k_MOST)
  g_MOST_ROWS : mg "MOST_ROWS" = some (.int 4 k_MOST_ROWS)
  gX_Malformed : mg "Malformed" = some (.ref X_Malformed)
  xX_Malformed : PySem.W.excIn K X_Malformed [.type "ValueError", .type "Exception", .type "BaseException", .type "object"] "ValueError.__new__" = true
  kX_Malformed : PySem.W.keepIn K (.ref X_Malformed) = true
  bX_Malformed : PySem.W.subIn K (.ref X_Malformed) (.type "BaseException") = some true
  tX_Malformed : PySem.W.typeIn K (.ref X_Malformed) = some (.type "type")
  iX_Malformed : PySem.W.isClsIn K X_Malformed = true
  sX_Malformed : PySem.W.subIn K (.ref X_Malformed) (.ref X_Malformed) = some true
end K39
namespace K39
open PySem PySem.Spec PyProof.Rows L2 Gm
open C8 (Cal Met Mak pe_c pe_mt pe_mt0 pe_mk)
section
variable {P : Program} {w : World} {K : PySem.W.Frag} {mg : Str → Option Value} {base : Heap}
/-! ### is_integer -/
def sp_is_integer : Sp := fun vs H Q _ => ∃ i, vs = [V.int i] ∧ Q (.bl true) H
theorem ok_is_integer (T : Top K mg) : FnOk P w K mg base CX0 1 T.a_is_integer T.d_is_integer ["value"] sp_is_integer := by
  refine T.F_is_integer.ok sc_is_integer (fun vs H Q E h => ?_) (fun cdv A outer s H vs Q E hr h => ?_)
  · obtain ⟨i, rfl, _⟩ := h
    rfl
  · obtain ⟨i, rfl, q⟩ := h
    refine ⟨_, (pss_one (ps_ret (pe_and (pe_callB (isiK K rfl) (by rfl) T.z_isinstance (by decide +kernel) (pa_cons (pv 0) (pa_cons (pe_bltn (v := .ty "int") (by rfl) T.z_int (by decide +kernel) rfl) pa_nil))) (pe_one (pe_not (pe_callB (isiK K rfl) (by rfl) T.z_isinstance (by decide +kernel) (pa_cons (pv 0) (pa_cons (pe_bltn (v := .ty "bool") (by rfl) T.z_bool (by decide +kernel) rfl) pa_nil)))))))), ?_⟩
    refine ⟨_, rfl, .int i, .ty "int", _, _, true, rfl, .ty "int", .base (.int i), kit_ty (by decide +kernel), true, rfl, iteT ?_⟩
    exact ⟨_, rfl, .int i, .ty "bool", _, _, false, rfl, .ty "bool", .base (.int i), kit_ty (by decide +kernel), false, rfl, q⟩
theorem cal_is_integer (T : Top K mg) (hN : base.NoSeer) (hT : P.given.tree = none) : Cal P w K mg base 1 "is_integer" sp_is_integer [] := ⟨⟨_, _, _, [], ok_is_integer T, T.g_is_integer, T.F_is_integer.kp, T.b_is_integer, .nil⟩⟩
/-! ### first_with_head -/
/-- the first place from k on whose row does not begin with 0 -/
def firstHead : List (List Int) → Nat → Option Nat
  | [], _ => none
  | r :: rs, k => if r.headD 0 ≠ 0 then some k else firstHead rs (k + 1)
theorem firstHead_step : ∀ (m : List (List Int)) (i j : Nat) (r : List Int), m[i]? = some r → (∀ k, k < i → ∀ r', m[k]? = some r' → r'.headD 0 = 0) → firstHead m j = if r.headD 0 ≠ 0 then some (j + i) else firstHead (m.drop (i + 1)) (j + i + 1)
  | [], i, j, r, h, _ => by simp at h
  | a :: m, 0, j, r, h, _ => by
    have e : a = r := by simpa using h
    subst e
    rfl
  | a :: m, i + 1, j, r, h, z => by
    have h0 : a.headD 0 = 0 := z 0 (Nat.succ_pos _) a rfl
    show (if a.headD 0 ≠ 0 then some j else firstHead m (j + 1)) = _
    rw [if_neg (by rw [h0]; simp), firstHead_step m i (j + 1) r (by simpa using h) fun k hk r' e => z (k + 1) (by omega) r' (by simpa using e)]
    rw [show j + 1 + i = j + (i + 1) by omega]
    rfl
theorem firstHead_none {m : List (List Int)} : ∀ {j : Nat}, (∀ r ∈ m, r.headD 0 = 0) → firstHead m j = none := by
  induction m with
  | nil => intro _ _; rfl
  | cons a m ih =>
    intro j h
    show (if a.headD 0 ≠ 0 then some j else firstHead m (j + 1)) = none
    rw [if_neg (by rw [h a (List.mem_cons_self ..)]; simp), ih fun r hr => h r (List.mem_cons_of_mem _ hr)]
def optV : Option Nat → V
  | none => .non
  | some k => .int k
def sp_first_with_head (K : PySem.W.Frag) : Sp := fun vs H Q _ => ∃ v m, vs = [v] ∧ IRows K H v m ∧ m.length ≤ 1000 ∧ (∀ r ∈ m, r ≠ []) ∧ ∀ H', Same H H' → Q (optV (firstHead m 0)) H'
theorem ok_first_with_head (T : Top K mg) : FnOk P w K mg base CX0 1 T.a_first_with_head T.d_first_with_head ["rows"] (sp_first_with_head K) := by
  refine T.F_first_with_head.ok sc_first_with_head (fun vs H Q E h => ?_) (fun cdv A outer s H vs Q E hr h => ?_)
  · obtain ⟨v, m, rfl, _⟩ := h
    rfl
  · obtain ⟨v, m, rfl, ⟨a, vs, rfl, hs, hp⟩, hl, hne, q⟩ := h
    refine ⟨_, (pss_cons (ps_for PassesOwn.never rfl (piEnum K rfl (by rfl) T.z_enumerate (pa_cons (pv 0) pa_nil)) (pg_tup rfl (pgs_cons (pg_name (i := 1) sc_first_with_head.nd rfl (by first | exact .inl rfl | exact .inr rfl)) (pgs_cons (pg_name (i := 2) sc_first_with_head.nd rfl (by first | exact .inl rfl | exact .inr rfl)) pgs_nil)))
      (pss_one (ps_if (pt_cmpR op_ne (pe_ix (ixS K rfl) (pv 2) pe_int (fun _ _ => rfl)) pe_int (nomark _))
      (pss_one (ps_ret (pv 1)))
      pss_nil)))
      (pss_one (ps_ret pe_non))), ?_⟩
    have lv := Paired.length hp
    refine ⟨_, rfl, a, vs, rfl, hs, fun J G W hG => ?_⟩
    refine for_it W (fun i σ H2 => ∃ y1 y2, σ = [some (.ref a), y1, y2] ∧ Same H H2 ∧ ∀ k, k < i → ∀ r, m[k]? = some r → r.headD 0 = 0) ⟨none, none, rfl, Same.refl H, fun k hk => absurd hk (Nat.not_lt_zero _)⟩ ?_ ?_ ?_
    · rintro i σ H2 hi ⟨y1, y2, rfl, s2, _⟩
      exact hG _ fun b _ o => s2 b o
    · rintro i x σ H2 H2' hi ⟨y1, y2, rfl, s2, hz⟩ ⟨U, x1, x2, rfl, nU, rfl, e1, e2⟩
      cases e1
      obtain ⟨r, er, a2, rfl, hs2⟩ := Paired.getR hp e2
      have hmr : r ∈ m := List.mem_of_getElem? er
      obtain ⟨z, r', rfl⟩ : ∃ z r', r = z :: r' := by
        cases r with
        | nil => exact absurd rfl (hne _ hmr)
        | cons z r' => exact ⟨z, r', rfl⟩
      have sU : Same H2 (upd H2 U (.tup [.int (i : Nat), .ref a2])) := same_upd nU
      refine g_pair nU ?_
      have hs3 := hs2.same (s2.trans sU)
      refine ⟨_, rfl, ?_⟩
      have at0 : atI ((z :: r').map V.int) 0 = some (.int z) := atI_nat (j := 0) rfl
      refine rIx_seq hs3 at0 ?_
      refine ⟨rfl, _, rfl, ?_⟩
      by_cases hz0 : z = 0
      · subst hz0
        refine iteNS rfl ?_
        refine ⟨_, _, rfl, s2.trans sU, fun k hk r'' e => ?_⟩
        by_cases hki : k = i
        · subst hki
          rw [er] at e
          cases e
          rfl
        · exact hz k (by omega) r'' e
      · rw [show decide (V.int z = V.int 0) = false from decide_eq_false fun e => hz0 (V.int.inj e)]
        refine iteT ?_
        refine ⟨_, rfl, ?_⟩
        have e := firstHead_step m i 0 (z :: r') er hz
        rw [if_pos (show (z :: r').headD 0 ≠ 0 from hz0), Nat.zero_add] at e
        rw [e] at q
        exact q _ (s2.trans sU)
    · rintro σ H2 ⟨y1, y2, rfl, s2, hz⟩
      have e : firstHead m 0 = none := firstHead_none fun r hr => by
        obtain ⟨k, hk⟩ := List.getElem?_of_mem hr
        refine hz k ?_ r hk
        rw [lv]
        exact (List.getElem?_eq_some_iff.mp hk).1
      rw [e] at q
      exact q _ s2
theorem cal_first_with_head (T : Top K mg) (hN : base.NoSeer) (hT : P.given.tree = none) : Cal P w K mg base 1 "first_with_head" (sp_first_with_head K) [] := ⟨⟨_, _, _, [], ok_first_with_head T, T.g_first_with_head, T.F_first_with_head.kp, T.b_first_with_head, .nil⟩⟩

end
end K39
namespace K39
open PySem PySem.Spec PyProof.Rows L2 Gm
open C8 (Cal Met Mak pe_c pe_mt pe_mt0 pe_mk)
section
variable {P : Program} {w : World} {K : PySem.W.Frag} {mg : Str → Option Value} {base : Heap}
/-! ### cleared -/
/-- the items of the row behind its first, once that is made 0 by the top row -/
def clr (ts rs : List Int) (l : Int) : List Int := List.zipWith (fun a b => (ts.headD 0 * b - rs.headD 0 * a).fdiv l) ts.tail rs.tail
theorem clr_len {ts rs : List Int} {l : Int} (h : ts.length = rs.length) : (clr ts rs l).length = ts.length - 1 := by
  unfold clr
  rw [List.length_zipWith, List.length_tail, List.length_tail, h, Nat.min_self]
theorem clr_get {ts rs : List Int} {l : Int} {k : Nat} {a b : Int} (h1 : ts[k + 1]? = some a) (h2 : rs[k + 1]? = some b) : (clr ts rs l)[k]? = some ((ts.headD 0 * b - rs.headD 0 * a).fdiv l) := by
  unfold clr
  rw [List.getElem?_zipWith]
  have e1 : ts.tail[k]? = some a := by rw [List.getElem?_tail]; exact h1
  have e2 : rs.tail[k]? = some b := by rw [List.getElem?_tail]; exact h2
  rw [e1, e2]
/-- all items have fewer than B bits -/
def Bits (B : Nat) (ns : List Int) : Prop := ∀ x ∈ ns, x.natAbs < 2 ^ B
theorem Bits.at {B : Nat} {ns : List Int} {k : Nat} {x : Int} (h : Bits B ns) (e : ns[k]? = some x) : x.natAbs < 2 ^ B := h x (List.mem_of_getElem? e)
def sp_cleared (K : PySem.W.Frag) : Sp := fun vs H Q _ => ∃ v1 v2 ts rs l B, vs = [v1, v2, V.int l] ∧ IRow K H v1 ts ∧ IRow K H v2 rs ∧ ts.length = rs.length ∧ 0 < ts.length ∧ ts.length ≤ 1000 ∧ l ≠ 0 ∧ Bits B ts ∧ Bits B rs ∧ B ≤ 60000000 ∧
  ∀ H' p, Same H H' → H p = none → H' p = some (.lst ((clr ts rs l).map V.int)) → Q (.ref p) H'
theorem ok_cleared (T : Top K mg) (hN : base.NoSeer) (hT : P.given.tree = none) : FnOk P w K mg base CX0 41 T.a_cleared T.d_cleared ["top", "row", "last"] (sp_cleared K) := by
  refine T.F_cleared.ok sc_cleared (fun vs H Q E h => ?_) (fun cdv A outer s H vs Q E hr h => ?_)
  · obtain ⟨v1, v2, ts, rs, l, B, rfl, _⟩ := h
    rfl
  · obtain ⟨v1, v2, ts, rs, l, B, rfl, ⟨a, rfl, ht⟩, ⟨b, rfl, hr'⟩, hl, h0, hl2, hl0, bt, br, hB, q⟩ := h
    refine ⟨_, (pss_one (ps_ret (pe_lc (own := [("k", 3)]) (g := (gName 3)) (by rfl) sc_cleared.nd (pi_range2 (by rfl) T.z_range (pa_cons pe_int (pa_cons (pe_callB (lenS K rfl) (by rfl) T.z_len (by decide +kernel) (pa_cons (pv 0) pa_nil)) pa_nil))) ((by show BlkOk ["top", "row", "last", "k"] (defScope s_cleared) _ _; exact blkOk_by (by decide +kernel))) (fun _ _ _ _ _ => (pg_name (i := 3) sc_cleared.nd rfl (by first | exact .inl rfl | exact .inr rfl))) (fun _ _ _ _ _ => pts_nil) (fun _ _ _ _ _ => (pe_op (op_fdivQ hN rfl rfl rfl rfl rfl hT (room100 hr (by decide))) (pe_op op_sub (pe_op op_mulX (pe_ix (ixS K rfl) (pv 0) pe_int (fun _ _ => rfl)) (pe_ix (ixS K rfl) (pv 1) (pv 3) (fun _ _ => rfl))) (pe_op op_mulX (pe_ix (ixS K rfl) (pv 1) pe_int (fun _ _ => rfl)) (pe_ix (ixS K rfl) (pv 0) (pv 3) (fun _ _ => rfl)))) (pv 2)))))), ?_⟩
    refine ⟨_, rfl, a, _, rfl, ht, 1, _, rfl, ⟨by decide, by decide, by rw [List.length_map]; omega, by rw [List.length_map]; omega⟩, fun D hD => ?_⟩
    refine lc_all walk_range hD (by rw [List.length_map]; omega) (fun _ _ => trivial) (fun i v _ => ∃ x y, ts[i + 1]? = some x ∧ rs[i + 1]? = some y ∧ v = .int ((ts.headD 0 * y - rs.headD 0 * x).fdiv l)) (fun _ _ _ _ _ _ _ h => h) ?_ gm_name ?_
    · rintro i x H2 H2' acc Ko hi s2 eD ⟨rfl, rfl⟩ k
      refine ⟨rfl, ?_⟩
      have hi' : i + 1 < ts.length := by
        rw [List.length_map] at hi
        omega
      have hi2 : i + 1 < rs.length := by omega
      have e0 : atI (ts.map V.int) 0 = some (.int (ts.headD 0)) := by
        cases ts with
        | nil => exact absurd h0 (by simp)
        | cons t ts => exact atI_nat (j := 0) rfl
      have f0 : atI (rs.map V.int) 0 = some (.int (rs.headD 0)) := by
        cases rs with
        | nil => rw [List.length_nil] at hi2; omega
        | cons t ts => exact atI_nat (j := 0) rfl
      have e1 : atI (ts.map V.int) (1 + (i : Nat)) = some (.int ts[i + 1]) := at_of (j := i + 1) (by omega) (ints_at (List.getElem?_eq_getElem hi'))
      have f1 : atI (rs.map V.int) (1 + (i : Nat)) = some (.int rs[i + 1]) := at_of (j := i + 1) (by omega) (ints_at (List.getElem?_eq_getElem hi2))
      have bt0 : (ts.headD 0).natAbs < 2 ^ B := by
        cases ts with
        | nil => exact absurd h0 (by simp)
        | cons t ts => exact bt t (List.mem_cons_self ..)
      have br0 : (rs.headD 0).natAbs < 2 ^ B := by
        cases rs with
        | nil => rw [List.length_nil] at hi2; omega
        | cons t ts => exact br t (List.mem_cons_self ..)
      refine ⟨_, rfl, ?_⟩
      refine rIx_seq (ht.same s2) e0 ?_
      refine ⟨_, rfl, _, rfl, ?_⟩
      refine rIx_seq (hr'.same s2) f1 ?_
      refine ⟨_, _, rfl, rfl, mulx_ok bt0 (br.at (List.getElem?_eq_getElem hi2)) (by omega), ?_⟩
      refine ⟨_, rfl, ?_⟩
      refine rIx_seq (hr'.same s2) f0 ?_
      refine ⟨_, rfl, _, rfl, ?_⟩
      refine rIx_seq (ht.same s2) e1 ?_
      refine ⟨_, _, rfl, rfl, mulx_ok br0 (bt.at (List.getElem?_eq_getElem hi')) (by omega), ?_⟩
      refine ⟨_, _, rfl, rfl, ?_⟩
      refine ⟨_, rfl, _, l, rfl, rfl, hl0, ?_⟩
      exact k _ _ (Same.refl _) ⟨_, _, List.getElem?_eq_getElem hi', List.getElem?_eq_getElem hi2, rfl⟩
    · intro H2 lst s2 eD hp
      have el : lst = (clr ts rs l).map V.int := by
        apply List.ext_getElem?
        intro i
        have ln := Paired.length hp
        rw [List.length_range, List.length_map] at ln
        have lc := clr_len (l := l) hl
        by_cases hi : i < lst.length
        · obtain ⟨j, ej, x, y, ex, ey, ev⟩ := Paired.getL hp (List.getElem?_eq_getElem hi)
          have hj : j = i := by
            have := List.getElem?_range (n := ((ts.length : Int) - 1).toNat) (i := i) (by omega)
            rw [List.length_map] at ej
            rw [this] at ej
            exact (Option.some.inj ej).symm
          subst hj
          rw [List.getElem?_eq_getElem hi, ev, List.getElem?_map, clr_get ex ey]
          rfl
        · rw [List.getElem?_eq_none (by omega), List.getElem?_eq_none (by rw [List.length_map]; omega)]
      rw [el] at eD
      exact q H2 D s2 hD eD
theorem cal_cleared (T : Top K mg) (hN : base.NoSeer) (hT : P.given.tree = none) : Cal P w K mg base 41 "cleared" (sp_cleared K) [] := ⟨⟨_, _, _, [], ok_cleared T hN hT, T.g_cleared, T.F_cleared.kp, T.b_cleared, .nil⟩⟩

end
end K39
namespace K39
open PySem PySem.Spec PyProof.Rows L2 Gm
open C8 (Cal Met Mak pe_c pe_mt pe_mt0 pe_mk)
section
variable {P : Program} {w : World} {K : PySem.W.Frag} {mg : Str → Option Value} {base : Heap}
/-! ### determinant_of -/
/-- the elimination without fractions, by the number of rows -/
def bare : Nat → Int → Int → List (List Int) → Int
  | 0, s, l, _ => s * l
  | n + 1, s, l, m => match firstHead m 0 with
    | none => 0
    | some k => bare n (if k % 2 = 1 then -s else s) ((m.getD k []).headD 0) ((m.eraseIdx k).map fun r => clr (m.getD k []) r l)
theorem firstHead_some : ∀ {m : List (List Int)} {j k : Nat}, firstHead m j = some k → j ≤ k ∧ k < j + m.length ∧ (m.getD (k - j) []).headD 0 ≠ 0
  | [], _, _, h => by cases h
  | a :: m, j, k, h => by
    by_cases ha : a.headD 0 ≠ 0
    · have e : firstHead (a :: m) j = some j := if_pos ha
      rw [e] at h
      cases h
      refine ⟨Nat.le_refl _, by simp, ?_⟩
      rw [Nat.sub_self]
      exact ha
    · have e : firstHead (a :: m) j = firstHead m (j + 1) := if_neg ha
      rw [e] at h
      obtain ⟨h1, h2, h3⟩ := firstHead_some h
      refine ⟨by omega, by rw [List.length_cons]; omega, ?_⟩
      rw [show k - j = (k - (j + 1)) + 1 by omega]
      exact h3
theorem fdiv_le (x l : Int) : (x.fdiv l).natAbs ≤ x.natAbs := by
  cases x with
  | ofNat m =>
    cases l with
    | ofNat n =>
      show (Int.fdiv (m : Int) (n : Int)).natAbs ≤ m
      rw [Int.fdiv_eq_ediv_of_nonneg _ (by omega)]
      show m / n ≤ m
      exact Nat.div_le_self _ _
    | negSucc n =>
      cases m with
      | zero => exact Nat.le_refl _
      | succ m =>
        show (m / (n + 1)) + 1 ≤ m + 1
        have := Nat.div_le_self m (n + 1)
        omega
  | negSucc m =>
    cases l with
    | ofNat n =>
      cases n with
      | zero => exact Nat.zero_le _
      | succ n =>
        show (m / (n + 1)) + 1 ≤ m + 1
        have := Nat.div_le_self m (n + 1)
        omega
    | negSucc n =>
      show (m + 1) / (n + 1) ≤ m + 1
      exact Nat.div_le_self _ _
theorem clr_bits {ts rs : List Int} {l : Int} {B : Nat} (bt : Bits B ts) (br : Bits B rs) : Bits (2 * B + 1) (clr ts rs l) := by
  intro x hx
  obtain ⟨k, hk⟩ := List.getElem?_of_mem hx
  unfold clr at hk
  rw [List.getElem?_zipWith] at hk
  cases e1 : ts.tail[k]? with
  | none => rw [e1] at hk; cases hk
  | some a =>
    cases e2 : rs.tail[k]? with
    | none => rw [e1, e2] at hk; cases hk
    | some b =>
      rw [e1, e2] at hk
      have ex : (ts.headD 0 * b - rs.headD 0 * a).fdiv l = x := Option.some.inj hk
      rw [← ex]
      refine Nat.lt_of_le_of_lt (fdiv_le _ _) ?_
      have ha : a.natAbs < 2 ^ B := bt a (List.mem_of_mem_tail (List.mem_of_getElem? e1))
      have hb : b.natAbs < 2 ^ B := br b (List.mem_of_mem_tail (List.mem_of_getElem? e2))
      have h1 : (ts.headD 0).natAbs < 2 ^ B := by
        cases ts with
        | nil => cases e1
        | cons t ts => exact bt t (List.mem_cons_self ..)
      have h2 : (rs.headD 0).natAbs < 2 ^ B := by
        cases rs with
        | nil => cases e2
        | cons t ts => exact br t (List.mem_cons_self ..)
      have p1 := wide_lt h1 hb
      have p2 := wide_lt h2 ha
      have e3 : 2 ^ (2 * B + 1) = 2 ^ (B + B) + 2 ^ (B + B) := by rw [show 2 * B + 1 = (B + B) + 1 by omega, Nat.pow_succ]; omega
      rw [e3]
      omega
/-- a square matrix of size n whose items have fewer than B bits -/
structure Sq (n B : Nat) (m : List (List Int)) : Prop where
  len : m.length = n
  row : ∀ r ∈ m, r.length = n
  bits : ∀ r ∈ m, Bits B r
theorem Sq.next {n B : Nat} {m : List (List Int)} (h : Sq (n + 1) B m) {k : Nat} (hk : k < n + 1) (l : Int) : Sq n (2 * B + 1) ((m.eraseIdx k).map fun r => clr (m.getD k []) r l) := by
  have hk' : k < m.length := by rw [h.len]; exact hk
  have eg : m.getD k [] = m[k] := by rw [List.getD_eq_getElem?_getD, List.getElem?_eq_getElem hk']; rfl
  have hm : m.getD k [] ∈ m := by rw [eg]; exact List.getElem_mem _
  refine ⟨?_, fun r hr => ?_, fun r hr => ?_⟩
  · rw [List.length_map, List.length_eraseIdx_of_lt hk', h.len]
    rfl
  · obtain ⟨r', hr', rfl⟩ := List.mem_map.mp hr
    have h1 := h.row r' (List.mem_of_mem_eraseIdx hr')
    have h2 := h.row _ hm
    rw [clr_len (by omega)]
    omega
  · obtain ⟨r', hr', rfl⟩ := List.mem_map.mp hr
    exact clr_bits (h.bits _ hm) (h.bits _ (List.mem_of_mem_eraseIdx hr'))
/-- the places that are kept -/
theorem filter_ne_range (n k : Nat) : (List.range n).filter (fun i => decide (i ≠ k)) = (List.range n).eraseIdx k := by
  induction n with
  | zero => simp
  | succ n ih =>
    rw [List.range_succ, List.filter_append, ih, List.filter_cons, List.filter_nil]
    by_cases h : n = k
    · subst h
      rw [if_neg (by simp), List.append_nil, List.eraseIdx_append_of_length_le (by simp), List.length_range, Nat.sub_self]
      simp [List.eraseIdx_of_length_le]
    · rw [if_pos (by simpa using h)]
      by_cases h2 : k < n
      · rw [List.eraseIdx_append_of_lt_length (by simpa using h2)]
      · rw [List.eraseIdx_of_length_le (by simp; omega), List.eraseIdx_of_length_le (by simp; omega)]
theorem map_range_get (m : List (List Int)) : (List.range m.length).map (fun i => m.getD i []) = m := by
  apply List.ext_getElem?
  intro i
  rw [List.getElem?_map]
  by_cases h : i < m.length
  · rw [List.getElem?_range h, List.getElem?_eq_getElem h]
    show some (m.getD i []) = _
    rw [List.getD_eq_getElem?_getD, List.getElem?_eq_getElem h]
    rfl
  · rw [List.getElem?_eq_none (by simpa using h), List.getElem?_eq_none (by omega)]
    rfl
theorem eraseIdx_map' {α β : Type} (f : α → β) : ∀ (l : List α) (k : Nat), (l.map f).eraseIdx k = (l.eraseIdx k).map f
  | [], _ => rfl
  | _ :: _, 0 => rfl
  | a :: l, k + 1 => congrArg (f a :: ·) (eraseIdx_map' f l k)
theorem erase_map_range {β : Type} (m : List (List Int)) (k : Nat) (f : List Int → β) : (m.eraseIdx k).map f = ((List.range m.length).eraseIdx k).map fun i => f (m.getD i []) := by
  have h : m.eraseIdx k = ((List.range m.length).eraseIdx k).map fun i => m.getD i [] := by
    rw [← eraseIdx_map', map_range_get]
  rw [h, List.map_map]
  rfl
theorem paired_map {α β γ : Type} {F : α → γ → Prop} {f : β → γ} : ∀ {l : List α} {is : List β}, Paired (fun i v => F v (f i)) is l → Paired F l (is.map f)
  | _, _, .nil => .nil
  | _, _, .cons r t => .cons r (paired_map t)
def sp_determinant_of (K : PySem.W.Frag) : Sp := fun vs H Q _ => ∃ v m n B, vs = [v] ∧ IRows K H v m ∧ Sq n B m ∧ n ≤ 5 ∧ B ≤ 1200000 ∧ ∀ H', Same H H' → Q (.int (bare n 1 1 m)) H'
theorem ok_determinant_of (T : Top K mg) (hN : base.NoSeer) (hT : P.given.tree = none) : FnOk P w K mg base CX0 42 T.a_determinant_of T.d_determinant_of ["rows"] (sp_determinant_of K) := by
  refine T.F_determinant_of.ok sc_determinant_of (fun vs H Q E h => ?_) (fun cdv A outer s H vs Q E hr h => ?_)
  · obtain ⟨v, m, n, B, rfl, _⟩ := h
    rfl
  · obtain ⟨v, m, n, B, rfl, hm, hsq, hn, hB, q⟩ := h
    have hr1 := hr
    refine ⟨_, (pss_cons (ps_set (i := 1) sc_determinant_of.nd rfl (by first | exact .inl rfl | exact .inr rfl) pe_int)
      (pss_cons (ps_set (i := 2) sc_determinant_of.nd rfl (by first | exact .inl rfl | exact .inr rfl) pe_int)
      (pss_cons (ps_while PassesOwn.never (pt_cmpR op_gt (pe_callB (lenS K rfl) (by rfl) T.z_len (by decide +kernel) (pa_cons (pv 0) pa_nil)) pe_int (nomark _))
      (pss_cons (ps_set (i := 3) sc_determinant_of.nd rfl (by first | exact .inl rfl | exact .inr rfl) (pe_c (cal_first_with_head T hN hT) hr (by decide) (by rfl) (pa_cons (pv 0) pa_nil)))
      (pss_cons (ps_if (pt_cmpR op_isN (pv 3) pe_non (nomark _))
      (pss_one (ps_ret pe_int))
      pss_nil)
      (C8.pss_cut (ps_if (pt_truth (pe_op op_odd (pv 3) pe_int) (by intro _; rfl))
      (pss_one (ps_set (i := 1) sc_determinant_of.nd rfl (by first | exact .inl rfl | exact .inr rfl) (pe_un un_neg (pv 1))))
      pss_nil)
      (pss_cons (ps_set (i := 4) sc_determinant_of.nd rfl (by first | exact .inl rfl | exact .inr rfl) (pe_ix (ixS K rfl) (pv 0) (pv 3) (fun _ _ => rfl)))
      (pss_cons (ps_setLc (i := 0) (own := [("k", 5), ("row", 6)]) (g := (gTup K 2 (gCons (gName 5) (gCons (gName 6) gNil)))) (by rfl) sc_determinant_of.nd rfl rfl (sw_true rfl rfl rfl (by decide +kernel)) (piEnum K rfl (by rfl) T.z_enumerate (pa_cons (pv 0) pa_nil)) ((by show BlkOk ["rows", "sign", "last", "at", "top", "k", "row"] (defScope s_determinant_of) _ _; exact blkOk_by (by decide +kernel))) (fun _ _ _ _ _ => (pg_tup rfl (pgs_cons (pg_name (i := 5) sc_determinant_of.nd rfl (by first | exact .inl rfl | exact .inr rfl)) (pgs_cons (pg_name (i := 6) sc_determinant_of.nd rfl (by first | exact .inl rfl | exact .inr rfl)) pgs_nil)))) (fun _ _ _ _ _ => (pts_one (pt_cmpR op_ne (pv 5) (pv 3) (nomark _)))) (fun _ _ _ _ _ => (pe_c (cal_cleared T hN hT) hr (by decide) (by rfl) (pa_cons (pv 4) (pa_cons (pv 6) (pa_cons (pv 2) pa_nil))))))
      (pss_one (ps_set (i := 2) sc_determinant_of.nd rfl (by first | exact .inl rfl | exact .inr rfl) (pe_ix (ixS K rfl) (pv 4) pe_int (fun _ _ => rfl))))))))))
      (pss_one (ps_ret (pe_op op_mulX (pv 1) (pv 2))))))), ?_⟩
    -- sign = 1; last = 1; while len(rows) > 0
    refine ⟨fun j σ H2 => ∃ v2 m2 s2 l2 B2 y3 y4 y5 y6, σ = [some v2, some (.int s2), some (.int l2), y3, y4, y5, y6] ∧ Same H H2 ∧ IRows K H2 v2 m2 ∧ Sq j B2 m2 ∧ j ≤ 5 ∧ (B2 + 1) * 2 ^ j ≤ 60000000 ∧ l2 ≠ 0 ∧ l2.natAbs < 2 ^ 60000000 ∧ s2.natAbs ≤ 1 ∧ bare j s2 l2 m2 = bare n 1 1 m,
      ⟨n, v, m, 1, 1, B, none, none, none, none, rfl, Same.refl H, hm, hsq, hn, ?_, by decide, ?_, by decide, rfl⟩, ?_⟩
    · have : 2 ^ n ≤ 2 ^ 5 := Nat.pow_le_pow_right (by decide) hn
      have e5 : (2 : Nat) ^ 5 = 32 := rfl
      have := Nat.mul_le_mul (show B + 1 ≤ 1200001 by omega) this
      omega
    · exact Nat.lt_of_lt_of_le (by decide : (1 : Int).natAbs < 2 ^ 1) (Nat.pow_le_pow_right (by decide) (by decide))
    · rintro j σ H2 ⟨v2, m2, s2, l2, B2, y3, y4, y5, y6, rfl, sm, hm2, sq2, hj, hB2, hl0, hlb, hs1, eb⟩
      obtain ⟨a2, ws, rfl, hs2, hp2⟩ := id hm2
      have lw := Paired.length hp2
      have lm := sq2.len
      refine ⟨_, rfl, a2, ws, rfl, hs2, _, _, rfl, rfl, _, rfl, ?_⟩
      cases j with
      | zero =>
        rw [decide_eq_false (by rw [lw, lm]; decide)]
        refine iteF ?_
        -- return sign * last
        refine ⟨_, rfl, _, rfl, _, _, rfl, rfl, ?_, ?_⟩
        · have h1 : s2.natAbs < 2 ^ 1 := by omega
          exact mulx_ok h1 hlb (by decide)
        · show Q (.int (s2 * l2)) H2
          rw [show s2 * l2 = bare n 1 1 m from eb]
          exact q _ sm
      | succ j =>
        rw [decide_eq_true (by rw [lw, lm]; omega)]
        refine iteT ?_
        refine ⟨fun σ' H' => ∃ v2 m2 s2 l2 B2 y3 y4 y5 y6, σ' = [some v2, some (.int s2), some (.int l2), y3, y4, y5, y6] ∧ Same H H' ∧ IRows K H' v2 m2 ∧ Sq j B2 m2 ∧ j ≤ 5 ∧ (B2 + 1) * 2 ^ j ≤ 60000000 ∧ l2 ≠ 0 ∧ l2.natAbs < 2 ^ 60000000 ∧ s2.natAbs ≤ 1 ∧ bare j s2 l2 m2 = bare n 1 1 m, fun σ' H' h => ⟨j, Nat.lt_succ_self _, h⟩, ?_⟩
        -- at = first_with_head(rows)
        refine ⟨_, rfl, _, m2, rfl, hm2, by omega, fun r hr e => ?_, fun H3 s3 => ?_⟩
        · have := sq2.row r hr
          rw [e] at this
          cases this
        have eb' : bare (j + 1) s2 l2 m2 = match firstHead m2 0 with
            | none => 0
            | some k => bare j (if k % 2 = 1 then -s2 else s2) ((m2.getD k []).headD 0) ((m2.eraseIdx k).map fun r => clr (m2.getD k []) r l2) := rfl
        rw [eb'] at eb
        cases ef : firstHead m2 0 with
        | none =>
          rw [ef] at eb
          refine ⟨_, rfl, rfl, _, rfl, ?_⟩
          rw [show decide (optV none = V.non) = true from decide_eq_true rfl]
          refine iteT ?_
          show Q (.int 0) H3
          rw [show (0 : Int) = bare n 1 1 m from eb]
          exact q _ (sm.trans s3)
        | some k =>
          rw [ef] at eb
          obtain ⟨_, hk, hh⟩ := firstHead_some ef
          rw [Nat.zero_add, lm] at hk
          rw [Nat.sub_zero] at hh
          have hk' : k < m2.length := by omega
          have eg : m2[k]? = some (m2.getD k []) := by rw [List.getD_eq_getElem?_getD, List.getElem?_eq_getElem hk']; rfl
          have hmk : m2.getD k [] ∈ m2 := List.mem_of_getElem? eg
          refine ⟨_, rfl, rfl, _, rfl, ?_⟩
          rw [show decide (optV (some k) = V.non) = false from decide_eq_false fun z => by cases z]
          refine iteF ?_
          -- if at & 1: sign = -sign
          refine ⟨fun σ' H' => H' = H3 ∧ σ' = [some (.ref a2), some (.int (if k % 2 = 1 then -s2 else s2)), some (.int l2), some (.int k), y4, y5, y6], ?_, ?_⟩
          · refine ⟨_, rfl, k, rfl, rfl, _, rfl, ?_⟩
            by_cases hk2 : k % 2 = 1
            · rw [show (((k % 2 : Nat) : Int) != 0) = true by rw [hk2]; rfl]
              refine iteT ?_
              refine ⟨_, rfl, _, rfl, rfl, ?_⟩
              rw [if_pos hk2]
              rfl
            · rw [show (((k % 2 : Nat) : Int) != 0) = false by rw [show k % 2 = 0 by omega]; rfl]
              refine iteF ?_
              refine ⟨rfl, ?_⟩
              rw [if_neg hk2]
              rfl
          · rintro σ' H' ⟨rfl, rfl⟩
            have hs3 := hs2.same s3
            have hm3 := hm2.same s3
            obtain ⟨_, ws3, e3, _, hp3⟩ := id hm3
            -- top = rows[at]
            obtain ⟨vt, et, hvt⟩ := Paired.getR (Paired.swap (L2.Paired.mapP hp2 fun _ _ => IRow.same s3)) eg
            refine ⟨_, rfl, _, rfl, ?_⟩
            refine rIx_seq hs3 (atI_nat (j := k) et) ?_
            -- rows = [cleared(top, row, last) for k, row in enumerate(rows) if k != at]
            refine ⟨_, rfl, a2, ws, rfl, hs3, fun J G W hG D hD => ?_⟩
            refine lc_gen W hD (by omega) (fun H4 s4 => hG H4 fun b _ o => s4 b o) (fun i => decide (i ≠ k)) (fun i v H4 => ∃ p, v = .ref p ∧ p ≠ D ∧ H4 p = some (.lst ((clr (m2.getD k []) (m2.getD i []) l2).map V.int))) ?_ ?_ ?_
            · rintro i v H4 H5 acc _ off ⟨p, rfl, hp, e⟩
              exact ⟨p, rfl, hp, off p _ hp e⟩
            · rintro i x H4 H4' acc Ko Kn hi s4 eD ⟨U, x1, x2, rfl, nU, rfl, e1, e2⟩ kk kn
              cases e1
              have sU : Same H4 (upd H4 U (.tup [.int (i : Nat), x2])) := same_upd nU
              obtain ⟨r, er, hr2⟩ := Paired.getR (L2.Paired.mapP hp2 fun _ _ => IRow.same (s3.trans (s4.trans sU))) e2
              have egr : m2.getD i [] = r := by rw [List.getD_eq_getElem?_getD, er]; rfl
              refine g_pair nU ⟨rfl, ?_⟩
              refine ⟨_, rfl, _, rfl, rfl, _, rfl, ?_⟩
              by_cases hik : i = k
              · subst hik
                rw [decide_eq_true rfl]
                refine iteF ?_
                exact kn (by simp) _ sU
              · have hik' : ¬ ((i : Int) = (k : Int)) := by omega
                rw [decide_eq_false fun z => hik' (V.int.inj z)]
                refine iteT ?_
                have hrm : r ∈ m2 := List.mem_of_getElem? er
                refine ⟨_, rfl, _, rfl, _, rfl, vt, x2, m2.getD k [], r, l2, B2, rfl, hvt.same (s4.trans sU), hr2, ?_, ?_, ?_, hl0, sq2.bits _ hmk, sq2.bits _ hrm, ?_, fun H5 p s5 np ep => ?_⟩
                · rw [sq2.row _ hmk, sq2.row _ hrm]
                · rw [sq2.row _ hmk]
                  exact Nat.succ_pos _
                · rw [sq2.row _ hmk]
                  omega
                · have : 1 ≤ 2 ^ (j + 1) := Nat.one_le_two_pow
                  have := Nat.mul_le_mul (Nat.le_refl (B2 + 1)) this
                  omega
                · refine kk (by simpa using hik) _ H5 (sU.trans s5) ⟨p, rfl, ?_, ?_⟩
                  · rintro rfl
                    rw [sU _ _ eD] at np
                    cases np
                  · rw [egr]
                    exact ep
            · intro H4 l s4 eD hpl
              rw [filter_ne_range] at hpl
              have hnew : IRows K H4 (.ref D) ((m2.eraseIdx k).map fun r => clr (m2.getD k []) r l2) := by
                refine ⟨D, l, rfl, .inl (.inl (.inl eD)), ?_⟩
                rw [erase_map_range, ← lw]
                refine paired_map (f := fun i => clr (m2.getD k []) (m2.getD i []) l2) (L2.Paired.mapP hpl fun i v h => ?_)
                obtain ⟨p, rfl, _, e⟩ := h
                exact ⟨p, rfl, .inl (.inl (.inl e))⟩
              -- last = top[0]
              have et0 : ∃ at_, vt = .ref at_ ∧ Gm.Seq K H4 at_ ((m2.getD k []).map V.int) := by
                obtain ⟨q1, q2, q3⟩ := hvt.same s4
                exact ⟨q1, q2, q3⟩
              obtain ⟨at_, rfl, hat⟩ := et0
              refine ⟨_, rfl, ?_⟩
              refine rIx_seq hat (v := .int ((m2.getD k []).headD 0)) ?_ ?_
              · cases ez : m2.getD k [] with
                | nil =>
                  have := sq2.row _ hmk
                  rw [ez] at this
                  cases this
                | cons z r' => exact atI_nat (j := 0) rfl
              · refine ⟨_, _, _, _, 2 * B2 + 1, _, _, _, _, rfl, sm.trans (s3.trans s4), hnew, Sq.next sq2 hk l2, by omega, ?_, hh, ?_, ?_, eb⟩
                · have e2 : (2 * B2 + 1 + 1) * 2 ^ j = (B2 + 1) * 2 ^ (j + 1) := by
                    rw [Nat.pow_succ, show 2 * B2 + 1 + 1 = (B2 + 1) * 2 by omega, Nat.mul_assoc, Nat.mul_comm 2 (2 ^ j)]
                  omega
                · have hb := sq2.bits _ hmk
                  have hB60 : B2 ≤ 60000000 := by
                    have : 1 ≤ 2 ^ (j + 1) := Nat.one_le_two_pow
                    have := Nat.mul_le_mul (Nat.le_refl (B2 + 1)) this
                    omega
                  refine Nat.lt_of_lt_of_le ?_ (Nat.pow_le_pow_right (by decide) hB60)
                  cases ez : m2.getD k [] with
                  | nil =>
                    have := sq2.row _ hmk
                    rw [ez] at this
                    cases this
                  | cons z r' =>
                    rw [ez] at hb
                    exact hb z (List.mem_cons_self ..)
                · by_cases hk2 : k % 2 = 1
                  · rw [if_pos hk2]
                    omega
                  · rw [if_neg hk2]
                    exact hs1
theorem cal_determinant_of (T : Top K mg) (hN : base.NoSeer) (hT : P.given.tree = none) : Cal P w K mg base 42 "determinant_of" (sp_determinant_of K) [] := ⟨⟨_, _, _, [], ok_determinant_of T hN hT, T.g_determinant_of, T.F_determinant_of.kp, T.b_determinant_of, .nil⟩⟩

end
end K39
namespace K39
open PySem PySem.Spec PyProof.Rows L2 Gm
open C8 (Cal Met Mak pe_c pe_mt pe_mt0 pe_mk)
section
variable {P : Program} {w : World} {K : PySem.W.Frag} {mg : Str → Option Value} {base : Heap}
/-! ### grids -/
theorem rw_ne : ¬ (("rows" : Str) = "width") := by decide +kernel
def flds (t : V) (w : Nat) : List (Str × V) := putF "width" (.int w) (putF "rows" t [])
theorem flds_rows (t : V) (w : Nat) : (flds t w).lookup ("rows" : Str) = some t := by
  unfold flds
  rw [lookup_putF, if_neg rw_ne, lookup_putF, if_pos rfl]
theorem flds_width (t : V) (w : Nat) : (flds t w).lookup ("width" : Str) = some (.int w) := by
  unfold flds
  rw [lookup_putF, if_pos rfl]
theorem flds_no (t : V) (w : Nat) {m : Str} (h1 : ¬ m = "width") (h2 : ¬ m = "rows") : (flds t w).lookup m = none := by
  unfold flds
  rw [lookup_putF, if_neg h1, lookup_putF, if_neg h2]
  all_goals rfl
/-- a Grid with the rows m, of width w -/
structure IsGrid (K : PySem.W.Frag) (C : Addr) (H : Hp) (v : V) (m : List (List Int)) (w : Nat) : Prop where
  ob : ∃ p dx t, v = .ref p ∧ H p = some (.ins C dx (flds t w)) ∧ TRows K H t m
  wd : ∀ r ∈ m, r.length = w
theorem IsGrid.same {K : PySem.W.Frag} {C : Addr} {H H' : Hp} {v : V} {m : List (List Int)} {w : Nat} (e : Same H H') (h : IsGrid K C H v m w) : IsGrid K C H' v m w :=
  let ⟨p, dx, t, ev, ho, ht⟩ := h.ob
  ⟨⟨p, dx, t, ev, e _ _ ho, ht.same e⟩, h.wd⟩
/-! ### checked_rows -/
theorem seq_ty {K : PySem.W.Frag} {H : Hp} {a : Addr} {xs : List V} (h : Gm.Seq K H a xs) : ∃ n, (n = "list" ∨ n = "tuple") ∧ TyX K H (.ref a) (.type n) := by
  rcases h with h | h
  · refine ⟨"list", .inl rfl, ?_⟩
    rcases h with (h | ⟨o, h⟩) | ⟨o, its, n, h, c, _⟩
    · exact .base (.lst h)
    · exact .base (.frz h)
    · exact .kList h c
  · refine ⟨"tuple", .inr rfl, ?_⟩
    rcases h with (h | ⟨o, h⟩) | ⟨o, its, n, h, c, _⟩
    · exact .base (.tup h)
    · exact .fTuple h
    · exact .kTuple h c
theorem kit_lt {K : PySem.W.Frag} {n : String} (h : n = "list" ∨ n = "tuple") : PySem.W.kitAny K (.type n) [.type "list", .type "tuple"] = some true := by
  rcases h with rfl | rfl
  · exact kitAny_cons (b := true) (kit_ty (by decide +kernel)) (fun e => by cases e) fun _ => rfl
  · exact kitAny_cons (b := false) (kit_ty (by decide +kernel)) (fun _ => kitAny_cons (b := true) (kit_ty (by decide +kernel)) (fun e => by cases e) fun _ => rfl) fun e => by cases e
def sp_checked_rows (K : PySem.W.Frag) : Sp := fun vs H Q _ => ∃ v m, vs = [v] ∧ IRows K H v m ∧ m.length ≤ 1000 ∧ (∀ r ∈ m, r.length ≤ 1000) ∧ ∀ v' H', Same H H' → TRows K H' v' m → Q v' H'
theorem ok_checked_rows (T : Top K mg) (hN : base.NoSeer) (hT : P.given.tree = none) : FnOk P w K mg base CX0 2 T.a_checked_rows T.d_checked_rows ["rows"] (sp_checked_rows K) := by
  refine T.F_checked_rows.ok sc_checked_rows (fun vs H Q E h => ?_) (fun cdv A outer s H vs Q E hr h => ?_)
  · obtain ⟨v, m, rfl, _⟩ := h
    rfl
  · obtain ⟨v, m, rfl, hm, hl, hw, q⟩ := h
    obtain ⟨a, ws, rfl, hs, hp⟩ := id hm
    have lw := Paired.length hp
    refine ⟨_, (pss_cons (ps_if (pt_not (pt_val (pe_callB (isiTK K rfl) (by rfl) T.z_isinstance (by decide +kernel) (pa_cons (pv 0) (pa_cons (pe_tup (pa_cons (pe_bltn (v := .ty "list") (by rfl) T.z_list (by decide +kernel) rfl) (pa_cons (pe_bltn (v := .ty "tuple") (by rfl) T.z_tuple (by decide +kernel) rfl) pa_nil))) pa_nil)))))
      (pss_one ps_never)
      pss_nil)
      (pss_cons (ps_for PassesOwn.never rfl (piS K rfl (pv 0)) (pg_name (i := 1) sc_checked_rows.nd rfl (by first | exact .inl rfl | exact .inr rfl))
      (pss_cons (ps_if (pt_not (pt_val (pe_callB (isiTK K rfl) (by rfl) T.z_isinstance (by decide +kernel) (pa_cons (pv 1) (pa_cons (pe_tup (pa_cons (pe_bltn (v := .ty "list") (by rfl) T.z_list (by decide +kernel) rfl) (pa_cons (pe_bltn (v := .ty "tuple") (by rfl) T.z_tuple (by decide +kernel) rfl) pa_nil))) pa_nil)))))
      (pss_one ps_never)
      pss_nil)
      (pss_one (ps_if (pt_not (pt_val (pe_callB (allK K rfl rfl) (by rfl) T.z_all (by decide +kernel) (pa_cons (pe_lc (own := [("item", 2)]) (g := (gName 2)) (by rfl) sc_checked_rows.nd (piS K rfl (pv 1)) ((by show BlkOk ["rows", "row", "item"] (defScope s_checked_rows) _ _; exact blkOk_by (by decide +kernel))) (fun _ _ _ _ _ => (pg_name (i := 2) sc_checked_rows.nd rfl (by first | exact .inl rfl | exact .inr rfl))) (fun _ _ _ _ _ => pts_nil) (fun _ _ _ _ _ => (pe_c (cal_is_integer T hN hT) hr (by decide) (by rfl) (pa_cons (pv 2) pa_nil)))) pa_nil))))
      (pss_one ps_never)
      pss_nil))))
      (pss_one (ps_ret (pe_callTy (tupK K rfl) (by rfl) T.z_tuple (by decide +kernel) (pa_cons (pe_lc (own := [("row", 1)]) (g := (gName 1)) (by rfl) sc_checked_rows.nd (piS K rfl (pv 0)) ((by show BlkOk ["rows", "row", "item"] (defScope s_checked_rows) _ _; exact blkOk_by (by decide +kernel))) (fun _ _ _ _ _ => (pg_name (i := 1) sc_checked_rows.nd rfl (by first | exact .inl rfl | exact .inr rfl))) (fun _ _ _ _ _ => pts_nil) (fun _ _ _ _ _ => (pe_callTy (tupK K rfl) (by rfl) T.z_tuple (by decide +kernel) (pa_cons (pv 1) pa_nil)))) pa_nil)))))), ?_⟩
    -- if not isinstance(rows, (list, tuple))
    refine ⟨_, rfl, by show 2 ≤ sizeLine; decide, fun p np => ?_⟩
    have s1 : Same H (upd H p (.tup [.ty "list", .ty "tuple"])) := same_upd np
    obtain ⟨n, hn, ty⟩ := seq_ty (hs.same s1)
    refine ⟨.ref a, p, [.ty "list", .ty "tuple"], _, [.type "list", .type "tuple"], true, rfl, upd_same, .cons (.ty _) (.cons (.ty _) .nil), ty, kit_lt hn, true, rfl, ?_⟩
    refine iteF ?_
    -- for row in rows
    refine ⟨_, rfl, a, ws, rfl, hs.same s1, fun J G W hG => ?_⟩
    generalize hH1 : upd H p (.tup [.ty "list", .ty "tuple"]) = H1 at s1 hG
    refine for_it W (fun i σ H2 => ∃ y1 y2, σ = [some (.ref a), y1, y2] ∧ Same H1 H2) ⟨none, none, rfl, Same.refl _⟩ (fun i σ H2 _ ⟨_, _, _, s2⟩ => hG _ fun b _ o => s2 b o) ?_ ?_
    · rintro i x σ H2 H2' hi ⟨y1, y2, rfl, s2⟩ ⟨rfl, ex⟩
      obtain ⟨r, er, b, rfl, hb⟩ := Paired.getR hp ex
      have hrm : r ∈ m := List.mem_of_getElem? er
      -- if not isinstance(row, (list, tuple))
      refine ⟨_, rfl, by show 2 ≤ sizeLine; decide, fun p2 np2 => ?_⟩
      have s3 : Same H2' (upd H2' p2 (.tup [.ty "list", .ty "tuple"])) := same_upd np2
      have hb3 := hb.same (s1.trans (s2.trans s3))
      obtain ⟨n2, hn2, ty2⟩ := seq_ty hb3
      refine ⟨.ref b, p2, [.ty "list", .ty "tuple"], _, [.type "list", .type "tuple"], true, rfl, upd_same, .cons (.ty _) (.cons (.ty _) .nil), ty2, kit_lt hn2, true, rfl, ?_⟩
      refine iteF ?_
      -- if not all([is_integer(item) for item in row])
      refine ⟨_, rfl, b, _, rfl, hb3, fun J2 G2 W2 hG2 D hD => ?_⟩
      refine lc_all W2 hD (by rw [List.length_map]; exact hw _ hrm) (fun H4 s4 => hG2 H4 fun b _ o => s4 b o) (fun _ v _ => v = .bl true) (fun _ _ _ _ _ _ _ h => h) ?_ gm_name ?_
      · rintro j y H4 H4' acc Ko hj s4 eD ⟨rfl, ey⟩ k
        obtain ⟨z, ez, rfl⟩ := ints_get ey
        refine ⟨rfl, ?_⟩
        exact ⟨_, rfl, z, rfl, k _ _ (Same.refl _) rfl⟩
      · intro H4 l s4 eD hl2
        refine ⟨D, List.replicate l.length true, rfl, .inl (.inl (by rw [← paired_true hl2]; exact eD)), true, by rw [all_true], ?_⟩
        refine iteF ?_
        exact ⟨_, _, rfl, s2.trans (s3.trans s4)⟩
    · rintro σ H2 ⟨y1, y2, rfl, s2⟩
      have sm := s1.trans s2
      -- return tuple([tuple(row) for row in rows])
      refine ⟨_, rfl, a, ws, rfl, hs.same sm, fun J2 G2 W2 hG2 D hD => ?_⟩
      refine lc_all W2 hD (by omega) (fun H4 s4 => hG2 H4 fun b _ o => s4 b o) (fun i v H4 => ∃ r, m[i]? = some r ∧ TRow K H4 v r) (fun i v H4 H5 acc e o ⟨r, er, h⟩ => ⟨r, er, TRow.off e o h⟩) ?_ gm_name ?_
      · rintro i x H4 H4' acc Ko hi s4 eD ⟨rfl, ex⟩ k
        obtain ⟨r, er, b, rfl, hb⟩ := Paired.getR hp ex
        refine ⟨rfl, ?_⟩
        refine ⟨_, rfl, b, r.map V.int, rfl, ?_⟩
        rcases hb.same (sm.trans s4) with hb' | hb'
        · refine .inl ⟨hb', fun t nt => ?_⟩
          exact k _ _ (same_upd nt) ⟨r, er, t, rfl, .inl (.inl upd_same)⟩
        · refine .inr ⟨hb', ?_⟩
          exact k _ _ (Same.refl _) ⟨r, er, b, rfl, hb'⟩
      · intro H4 l s4 eD hpl
        refine ⟨D, l, rfl, .inl ⟨.inl (.inl eD), fun t nt => ?_⟩⟩
        refine q _ _ (sm.trans (s4.trans (same_upd nt))) ⟨t, l, rfl, .inl (.inl upd_same), ?_⟩
        exact L2.Paired.mapP (paired_at (m := m) (by omega) hpl) fun _ _ => TRow.same (same_upd nt)
theorem cal_checked_rows (T : Top K mg) (hN : base.NoSeer) (hT : P.given.tree = none) : Cal P w K mg base 2 "checked_rows" (sp_checked_rows K) [] := ⟨⟨_, _, _, [], ok_checked_rows T hN hT, T.g_checked_rows, T.F_checked_rows.kp, T.b_checked_rows, .nil⟩⟩
/-! ### checked_width -/
def sp_checked_width (K : PySem.W.Frag) : Sp := fun vs H Q _ => ∃ (v : V) (m : List (List Int)) (w : Nat), vs = [v, .int w] ∧ TRows K H v m ∧ m.length ≤ 1000 ∧ (∀ r ∈ m, r.length = w) ∧ ∀ H', Same H H' → Q (.int w) H'
theorem ok_checked_width (T : Top K mg) (hN : base.NoSeer) (hT : P.given.tree = none) : FnOk P w K mg base CX0 2 T.a_checked_width T.d_checked_width ["rows", "width"] (sp_checked_width K) := by
  refine T.F_checked_width.ok sc_checked_width (fun vs H Q E h => ?_) (fun cdv A outer s H vs Q E hr h => ?_)
  · obtain ⟨v, m, w, rfl, _⟩ := h
    rfl
  · obtain ⟨v, m, w, rfl, hm, hl, hw, q⟩ := h
    obtain ⟨a, ws, rfl, hs, hp⟩ := id hm
    have lw := Paired.length hp
    refine ⟨_, (pss_cons (ps_if (pt_cmpR op_isN (pv 1) pe_non (nomark _))
      (pss_one (ps_set (i := 1) sc_checked_width.nd rfl (by first | exact .inl rfl | exact .inr rfl) (pe_ifExp (pt_cmpR op_gt (pe_callB (lenS K rfl) (by rfl) T.z_len (by decide +kernel) (pa_cons (pv 0) pa_nil)) pe_int (nomark _)) (pe_callB (lenS K rfl) (by rfl) T.z_len (by decide +kernel) (pa_cons (pe_ix (ixT K rfl) (pv 0) pe_int (fun _ _ => rfl)) pa_nil)) pe_int)))
      pss_nil)
      (pss_cons (ps_if (PW.pt (pw_or (pt_not (pt_val (pe_c (cal_is_integer T hN hT) hr (by decide) (by rfl) (pa_cons (pv 1) pa_nil)))) (pw_or1 (pt_cmpR op_lt (pv 1) pe_int (nomark _)))))
      (pss_one ps_never)
      pss_nil)
      (pss_cons (ps_if (pt_not (pt_val (pe_callB (allK K rfl rfl) (by rfl) T.z_all (by decide +kernel) (pa_cons (pe_lc (own := [("row", 2)]) (g := (gName 2)) (by rfl) sc_checked_width.nd (piS K rfl (pv 0)) ((by show BlkOk ["rows", "width", "row"] (defScope s_checked_width) _ _; exact blkOk_by (by decide +kernel))) (fun _ _ _ _ _ => (pg_name (i := 2) sc_checked_width.nd rfl (by first | exact .inl rfl | exact .inr rfl))) (fun _ _ _ _ _ => pts_nil) (fun _ _ _ _ _ => (pe_cmpR op_eq (pe_callB (lenS K rfl) (by rfl) T.z_len (by decide +kernel) (pa_cons (pv 2) pa_nil)) (pv 1) (nomark _)))) pa_nil))))
      (pss_one ps_never)
      pss_nil)
      (pss_one (ps_ret (pv 1)))))), ?_⟩
    -- if width is None
    refine ⟨_, rfl, rfl, _, rfl, ?_⟩
    rw [show decide (V.int (w : Int) = V.non) = false from decide_eq_false fun z => by cases z]
    refine iteF ?_
    -- if not is_integer(width) or width < 0
    refine ⟨_, rfl, _, rfl, true, rfl, iteF ⟨_, rfl, _, _, rfl, rfl, _, rfl, ?_⟩⟩
    rw [decide_eq_false (by omega)]
    refine iteF ?_
    -- if not all([len(row) == width for row in rows])
    refine ⟨_, rfl, a, ws, rfl, .inr hs, fun J2 G2 W2 hG2 D hD => ?_⟩
    refine lc_all W2 hD (by omega) (fun H4 s4 => hG2 H4 fun b _ o => s4 b o) (fun _ v _ => v = .bl true) (fun _ _ _ _ _ _ _ h => h) ?_ gm_name ?_
    · rintro i x H4 H4' acc Ko hi s4 eD ⟨rfl, ex⟩ k
      obtain ⟨r, er, b, rfl, hb⟩ := Paired.getR hp ex
      refine ⟨rfl, ?_⟩
      refine ⟨_, rfl, b, _, rfl, .inr (Same.seqT s4 hb), _, rfl, rfl, ?_⟩
      rw [List.length_map, hw r (List.mem_of_getElem? er), decide_eq_true rfl]
      exact k _ _ (Same.refl _) rfl
    · intro H4 l s4 eD hl2
      refine ⟨D, List.replicate l.length true, rfl, .inl (.inl (by rw [← paired_true hl2]; exact eD)), true, by rw [all_true], ?_⟩
      refine iteF ?_
      exact ⟨_, rfl, q _ s4⟩
theorem cal_checked_width (T : Top K mg) (hN : base.NoSeer) (hT : P.given.tree = none) : Cal P w K mg base 2 "checked_width" (sp_checked_width K) [] := ⟨⟨_, _, _, [], ok_checked_width T hN hT, T.g_checked_width, T.F_checked_width.kp, T.b_checked_width, .nil⟩⟩
/-! ### Grid.__init__ -/
def sp_Grid_init (K : PySem.W.Frag) (C : Addr) : Sp := fun vs H Q _ => ∃ (p dx : Addr) (v : V) (m : List (List Int)) (w : Nat), vs = [.ref p, v, .int w] ∧ H p = some (.ins C dx []) ∧ IRows K H v m ∧ m.length ≤ 1000 ∧ w ≤ 1000 ∧ (∀ r ∈ m, r.length = w) ∧
  ∀ t H', Off p H H' → H' p = some (.ins C dx (flds t w)) → TRows K H' t m → Q .non H'
theorem trows_off {K : PySem.W.Frag} {H H' : Hp} {p C dx : Addr} {fs : List (Str × V)} {t : V} {m : List (List Int)} (e : H p = some (.ins C dx fs)) (o : Off p H H') (h : TRows K H t m) : TRows K H' t m := by
  have f : ∀ {a : Addr} {xs : List V}, SqT K H a xs → SqT K H' a xs := fun {a xs} h => by
    rcases h with (h | ⟨u, h⟩) | h
    · exact .inl (.inl (o _ _ (ne_of h e (by intro z; cases z)) h))
    · exact .inl (.inr ⟨u, o _ _ (ne_of h e (by intro z; cases z)) h⟩)
    · exact .inr h
  obtain ⟨a, vs, rfl, hs, hp⟩ := h
  exact ⟨a, vs, rfl, f hs, L2.Paired.mapP hp fun v r ⟨b, e, h⟩ => ⟨b, e, f h⟩⟩
theorem ok_Grid_init (T : Top K mg) (hN : base.NoSeer) (hT : P.given.tree = none) : FnOk P w K mg base CX0 3 T.a_Grid_init T.d_Grid_init ["self", "rows", "width"] (sp_Grid_init K T.C_Grid) := by
  refine T.F_Grid_init.ok sc_Grid_init (fun vs H Q E h => ?_) (fun cdv A outer s H vs Q E hr h => ?_)
  · obtain ⟨p, dx, v, m, w, rfl, _⟩ := h
    rfl
  · obtain ⟨p, dx, v, m, w, rfl, hp, hm, hl, hw, hrw, q⟩ := h
    refine ⟨_, PSs.nox (pss_cons (ps_fld (pv 0) (pe_c (cal_checked_rows T hN hT) hr (by decide) (by rfl) (pa_cons (pv 1) pa_nil)) rfl)
      (pss_one (ps_fld (pv 0) (pe_c (cal_checked_width T hN hT) hr (by decide) (by rfl) (pa_cons (fldK K rfl (pv 0) rfl) (pa_cons (pv 2) pa_nil))) rfl))), ?_⟩
    refine ⟨_, rfl, v, m, rfl, hm, hl, fun r hr => by rw [hrw r hr]; exact hw, fun t H1 s1 ht => ?_⟩
    have hp1 := s1 _ _ hp
    refine ⟨_, rfl, p, T.C_Grid, dx, [], rfl, hp1, T.cl_Grid, T.n_rows, by show 0 < 1000; decide, ?_⟩
    refine ⟨_, rfl, p, T.C_Grid, dx, _, t, rfl, upd_same, T.cl_Grid, T.n_rows, ?_, ?_⟩
    · rw [lookup_putF, if_pos rfl]
    have ht2 : TRows K (upd H1 p (.ins T.C_Grid dx (putF "rows" t []))) t m := trows_off hp1 Off.upd ht
    refine ⟨_, rfl, t, m, w, rfl, ht2, hl, hrw, fun H2 s2 => ?_⟩
    have hp2 := s2 _ _ upd_same
    refine ⟨_, rfl, p, T.C_Grid, dx, _, rfl, hp2, T.cl_Grid, T.n_width, by show 1 < 1000; decide, ?_⟩
    refine q t _ (fun b o n e => ?_) upd_same (trows_off hp2 Off.upd (ht2.same s2))
    rw [upd_ne n]
    exact s2 _ _ (Off.upd _ _ n (s1 _ _ e))
theorem mak_Grid (T : Top K mg) (hN : base.NoSeer) (hT : P.given.tree = none) : Mak P w K mg base 3 "Grid" T.C_Grid (sp_Grid_init K T.C_Grid) [] := ⟨⟨_, _, _, [], T.mk_Grid, ok_Grid_init T hN hT, T.g_Grid, T.b_Grid_init, .nil⟩⟩
/-- what a call Grid(rows, width) asks and gives -/
theorem make_grid {K : PySem.W.Frag} {C : Addr} {H1 : Hp} {v : V} {m : List (List Int)} {w : Nat} {Q : VK} {E : XK} (hm : IRows K H1 v m) (hl : m.length ≤ 1000) (hw : w ≤ 1000) (hrw : ∀ r ∈ m, r.length = w) (q : ∀ g H', Same H1 H' → IsGrid K C H' g m w → Q g H') :
    ∀ x dx, H1 x = none → H1 dx = none → dx ≠ x → sp_Grid_init K C (.ref x :: ([v, .int w] ++ [])) (upd (upd H1 dx (.own x)) x (.ins C dx [])) (fun v H2 => v = .non ∧ Q (.ref x) H2) E := fun x dx nx nd ne => by
  have s0 : Same H1 (upd (upd H1 dx (.own x)) x (.ins C dx [])) := fun b o e => by
    rw [upd_ne (ne_of_none e nx), upd_ne (ne_of_none e nd)]
    exact e
  refine ⟨x, dx, v, m, w, rfl, upd_same, hm.same s0, hl, hw, hrw, fun t H' o ho ht => ⟨rfl, ?_⟩⟩
  exact q _ _ (fun b u e => o _ _ (ne_of_none e nx) (s0 _ _ e)) ⟨⟨x, dx, t, rfl, ho, ht⟩, hrw⟩

end
end K39
namespace K39
open PySem PySem.Spec PyProof.Rows L2 Gm
open C8 (Cal Met Mak pe_c pe_mt pe_mt0 pe_mk)
section
variable {P : Program} {w : World} {K : PySem.W.Frag} {mg : Str → Option Value} {base : Heap}
/-! ### dot -/
def dotI (xs ys : List Int) : Int := (List.zipWith (· * ·) xs ys).sum
def sp_dot (K : PySem.W.Frag) : Sp := fun vs H Q _ => ∃ v1 v2 xs ys B1 B2, vs = [v1, v2] ∧ TRow K H v1 xs ∧ TRow K H v2 ys ∧ xs.length = ys.length ∧ xs.length ≤ 1000 ∧ Bits B1 xs ∧ Bits B2 ys ∧ B1 + B2 ≤ 134217728 ∧ ∀ H', Same H H' → Q (.int (dotI xs ys)) H'
theorem ok_dot (T : Top K mg) (hN : base.NoSeer) (hT : P.given.tree = none) : FnOk P w K mg base CX0 1 T.a_dot T.d_dot ["a", "b"] (sp_dot K) := by
  refine T.F_dot.ok sc_dot (fun vs H Q E h => ?_) (fun cdv A outer s H vs Q E hr h => ?_)
  · obtain ⟨v1, v2, xs, ys, B1, B2, rfl, _⟩ := h
    rfl
  · obtain ⟨v1, v2, xs, ys, B1, B2, rfl, ⟨a, rfl, hx⟩, ⟨b, rfl, hy⟩, hl, hl2, bx, by', hB, q⟩ := h
    refine ⟨_, (pss_one (ps_ret (pe_callB (sumK K rfl rfl) (by rfl) T.z_sum (by decide +kernel) (pa_cons (pe_lc (own := [("x", 2), ("y", 3)]) (g := (gTup K 2 (gCons (gName 2) (gCons (gName 3) gNil)))) (by rfl) sc_dot.nd (RZ.pi_zipA (by rfl) T.z_zip (pa_cons (pv 0) (pa_cons (pv 1) pa_nil))) ((by show BlkOk ["a", "b", "x", "y"] (defScope s_dot) _ _; exact blkOk_by (by decide +kernel))) (fun _ _ _ _ _ => (pg_tup rfl (pgs_cons (pg_name (i := 2) sc_dot.nd rfl (by first | exact .inl rfl | exact .inr rfl)) (pgs_cons (pg_name (i := 3) sc_dot.nd rfl (by first | exact .inl rfl | exact .inr rfl)) pgs_nil)))) (fun _ _ _ _ _ => pts_nil) (fun _ _ _ _ _ => (pe_op op_mulX (pv 2) (pv 3)))) pa_nil)))), ?_⟩
    refine ⟨_, rfl, _, rfl, a, b, _, _, rfl, .inr ⟨hx, hy, fun D hD => ?_⟩⟩
    have W : Walk (RZ.ItzT K a b) xs.length (fun H => SqT K H a (xs.map V.int) ∧ SqT K H b (ys.map V.int)) (YPair (fun i => (xs.map V.int)[i]?) (fun i => (ys.map V.int)[i]?)) := walk_zipT (by rw [List.length_map, List.length_map, hl, Nat.min_self])
    refine lc_all W hD hl2 (fun H4 s4 => ⟨Same.seqT s4 hx, Same.seqT s4 hy⟩) (fun i v _ => ∃ z, (List.zipWith (· * ·) xs ys)[i]? = some z ∧ v = .int z) (fun _ _ _ _ _ _ _ h => h) ?_ gm_pair ?_
    · rintro i x H4 H4' acc Ko hi s4 eD ⟨U, x1, x2, rfl, nU, rfl, e1, e2⟩ k
      obtain ⟨z1, ez1, rfl⟩ := ints_get e1
      obtain ⟨z2, ez2, rfl⟩ := ints_get e2
      refine g_pair nU ⟨rfl, ?_⟩
      refine ⟨_, rfl, _, rfl, z1, z2, rfl, rfl, mulx_ok (bx.at ez1) (by'.at ez2) hB, ?_⟩
      refine k _ _ (same_upd nU) ⟨z1 * z2, ?_, rfl⟩
      rw [List.getElem?_zipWith, ez1, ez2]
    · intro H4 l s4 eD hpl
      have el := ints_list (by rw [List.length_zipWith, hl, Nat.min_self]) hpl
      refine ⟨D, List.zipWith (· * ·) xs ys, rfl, .inl (.inl (by rw [← el]; exact eD)), ?_⟩
      exact q _ s4
theorem cal_dot (T : Top K mg) (hN : base.NoSeer) (hT : P.given.tree = none) : Cal P w K mg base 1 "dot" (sp_dot K) [] := ⟨⟨_, _, _, [], ok_dot T hN hT, T.g_dot, T.F_dot.kp, T.b_dot, .nil⟩⟩
/-! ### the simple methods -/
def sp_Grid_len (K : PySem.W.Frag) (C : Addr) : Sp := fun vs H Q _ => ∃ v m w, vs = [v] ∧ IsGrid K C H v m w ∧ Q (.int m.length) H
def sp_Grid_is_square (K : PySem.W.Frag) (C : Addr) : Sp := fun vs H Q _ => ∃ v m w, vs = [v] ∧ IsGrid K C H v m w ∧ Q (.bl (decide (m.length = w))) H
theorem ok_Grid_is_square (T : Top K mg) (hN : base.NoSeer) (hT : P.given.tree = none) : FnOk P w K mg base CX0 1 T.a_Grid_is_square T.d_Grid_is_square ["self"] (sp_Grid_is_square K T.C_Grid) := by
  refine T.F_Grid_is_square.ok sc_Grid_is_square (fun vs H Q E h => ?_) (fun cdv A outer s H vs Q E hr h => ?_)
  · obtain ⟨v, m, w, rfl, _⟩ := h
    rfl
  · obtain ⟨v, m, w, rfl, ⟨⟨p, dx, t, rfl, ho, a, ws, rfl, hs, hp⟩, hw⟩, q⟩ := h
    refine ⟨_, (pss_one (ps_ret (pe_cmpR op_eq (pe_callB (lenS K rfl) (by rfl) T.z_len (by decide +kernel) (pa_cons (fldK K rfl (pv 0) rfl) pa_nil)) (fldK K rfl (pv 0) rfl) (nomark _)))), ?_⟩
    refine ⟨_, rfl, p, T.C_Grid, dx, _, _, rfl, ho, T.cl_Grid, T.n_rows, flds_rows _ _, a, ws, rfl, .inr hs, _, rfl, p, T.C_Grid, dx, _, _, rfl, ho, T.cl_Grid, T.n_width, flds_width _ _, rfl, ?_⟩
    have e : decide (V.int (ws.length : Int) = V.int (w : Int)) = decide (m.length = w) := by
      rw [Paired.length hp]
      by_cases h : m.length = w
      · rw [decide_eq_true h, decide_eq_true (by rw [h])]
      · rw [decide_eq_false h, decide_eq_false (fun z => h (by have := V.int.inj z; omega))]
    show Q (.bl (decide (V.int (ws.length : Int) = V.int (w : Int)))) H
    rw [e]
    exact q
theorem met_Grid_is_square (T : Top K mg) (hN : base.NoSeer) (hT : P.given.tree = none) : Met P w K mg base 1 T.C_Grid "is_square" (sp_Grid_is_square K T.C_Grid) [] := ⟨⟨_, _, _, [], T.cl_Grid, T.m_Grid_is_square, ok_Grid_is_square T hN hT, T.b_Grid_is_square, .nil⟩⟩
theorem m_is_square (t : V) (w : Nat) : (flds t w).lookup ("is_square" : Str) = none := flds_no t w (by decide +kernel) (by decide +kernel)
theorem m_transposed (t : V) (w : Nat) : (flds t w).lookup ("transposed" : Str) = none := flds_no t w (by decide +kernel) (by decide +kernel)
theorem m_determinant (t : V) (w : Nat) : (flds t w).lookup ("determinant" : Str) = none := flds_no t w (by decide +kernel) (by decide +kernel)
theorem m_adjugate (t : V) (w : Nat) : (flds t w).lookup ("adjugate" : Str) = none := flds_no t w (by decide +kernel) (by decide +kernel)
theorem m_is_unimodular (t : V) (w : Nat) : (flds t w).lookup ("is_unimodular" : Str) = none := flds_no t w (by decide +kernel) (by decide +kernel)
def sp_check_square (K : PySem.W.Frag) (C : Addr) : Sp := fun vs H Q _ => ∃ v m w, vs = [v] ∧ IsGrid K C H v m w ∧ m.length = w ∧ Q .non H
theorem ok_check_square (T : Top K mg) (hN : base.NoSeer) (hT : P.given.tree = none) : FnOk P w K mg base CX0 2 T.a_check_square T.d_check_square ["a"] (sp_check_square K T.C_Grid) := by
  refine T.F_check_square.ok sc_check_square (fun vs H Q E h => ?_) (fun cdv A outer s H vs Q E hr h => ?_)
  · obtain ⟨v, m, w, rfl, _⟩ := h
    rfl
  · obtain ⟨v, m, w, rfl, G, hw, q⟩ := h
    obtain ⟨⟨p, dx, t, rfl, ho, ht⟩, hrw⟩ := id G
    refine ⟨_, (pss_one (ps_if (pt_not (pt_val (pe_mt0 (met_Grid_is_square T hN hT) hr (by decide) (pv 0))))
      (pss_one ps_never)
      pss_nil)), ?_⟩
    refine ⟨_, rfl, p, dx, _, rfl, ho, m_is_square _ _, .ref p, m, w, rfl, G, _, rfl, ?_⟩
    rw [decide_eq_true hw]
    exact iteF q
theorem cal_check_square (T : Top K mg) (hN : base.NoSeer) (hT : P.given.tree = none) : Cal P w K mg base 2 "check_square" (sp_check_square K T.C_Grid) [] := ⟨⟨_, _, _, [], ok_check_square T hN hT, T.g_check_square, T.F_check_square.kp, T.b_check_square, .nil⟩⟩
def sp_Grid_determinant (K : PySem.W.Frag) (C : Addr) : Sp := fun vs H Q _ => ∃ v m n B, vs = [v] ∧ IsGrid K C H v m n ∧ Sq n B m ∧ n ≤ 5 ∧ B ≤ 1200000 ∧ ∀ H', Same H H' → Q (.int (bare n 1 1 m)) H'
theorem ok_Grid_determinant (T : Top K mg) (hN : base.NoSeer) (hT : P.given.tree = none) : FnOk P w K mg base CX0 43 T.a_Grid_determinant T.d_Grid_determinant ["self"] (sp_Grid_determinant K T.C_Grid) := by
  refine T.F_Grid_determinant.ok sc_Grid_determinant (fun vs H Q E h => ?_) (fun cdv A outer s H vs Q E hr h => ?_)
  · obtain ⟨v, m, n, B, rfl, _⟩ := h
    rfl
  · obtain ⟨v, m, n, B, rfl, G, sq, hn, hB, q⟩ := h
    obtain ⟨⟨p, dx, t, rfl, ho, ht⟩, hrw⟩ := id G
    refine ⟨_, (pss_cons (ps_expr (pe_c (cal_check_square T hN hT) hr (by decide) (by rfl) (pa_cons (pv 0) pa_nil)))
      (pss_one (ps_ret (pe_c (cal_determinant_of T hN hT) hr (by decide) (by rfl) (pa_cons (fldK K rfl (pv 0) rfl) pa_nil))))), ?_⟩
    refine ⟨_, rfl, .ref p, m, n, rfl, G, sq.len, ?_⟩
    exact ⟨_, rfl, p, T.C_Grid, dx, _, t, rfl, ho, T.cl_Grid, T.n_rows, flds_rows _ _, t, m, n, B, rfl, ht.rows, sq, hn, hB, q⟩
theorem met_Grid_determinant (T : Top K mg) (hN : base.NoSeer) (hT : P.given.tree = none) : Met P w K mg base 43 T.C_Grid "determinant" (sp_Grid_determinant K T.C_Grid) [] := ⟨⟨_, _, _, [], T.cl_Grid, T.m_Grid_determinant, ok_Grid_determinant T hN hT, T.b_Grid_determinant, .nil⟩⟩
def sp_Grid_is_unimodular (K : PySem.W.Frag) (C : Addr) : Sp := fun vs H Q _ => ∃ v m w, vs = [v] ∧ IsGrid K C H v m w ∧ ((m.length ≠ w ∧ ∀ H', Same H H' → Q (.bl false) H') ∨ ∃ B, Sq w B m ∧ w ≤ 5 ∧ B ≤ 1200000 ∧ ∀ H', Same H H' → Q (.bl (decide ((bare w 1 1 m).natAbs = 1))) H')
theorem ok_Grid_is_unimodular (T : Top K mg) (hN : base.NoSeer) (hT : P.given.tree = none) : FnOk P w K mg base CX0 45 T.a_Grid_is_unimodular T.d_Grid_is_unimodular ["self"] (sp_Grid_is_unimodular K T.C_Grid) := by
  refine T.F_Grid_is_unimodular.ok sc_Grid_is_unimodular (fun vs H Q E h => ?_) (fun cdv A outer s H vs Q E hr h => ?_)
  · obtain ⟨v, m, w, rfl, _⟩ := h
    rfl
  · obtain ⟨v, m, n, rfl, G, q⟩ := h
    obtain ⟨⟨p, dx, t, rfl, ho, ht⟩, hrw⟩ := id G
    refine ⟨_, (pss_one (ps_ret (pe_and (pe_mt0 (met_Grid_is_square T hN hT) hr (by decide) (pv 0)) (pe_one (pe_cmpR op_eq (pe_callB (call_abs) (by rfl) T.z_abs (by decide +kernel) (pa_cons (pe_mt0 (met_Grid_determinant T hN hT) hr (by decide) (pv 0)) pa_nil)) pe_int (nomark _)))))), ?_⟩
    refine ⟨_, rfl, p, dx, _, rfl, ho, m_is_square _ _, .ref p, m, n, rfl, G, _, rfl, ?_⟩
    rcases q with ⟨hne, q⟩ | ⟨B, sq, hn, hB, q⟩
    · rw [decide_eq_false hne]
      exact iteF (q _ (Same.refl _))
    · rw [decide_eq_true sq.len]
      refine iteT ?_
      refine ⟨_, rfl, p, dx, _, rfl, ho, m_determinant _ _, .ref p, m, n, B, rfl, G, sq, hn, hB, fun H2 s2 => ⟨_, rfl, rfl, ?_⟩⟩
      have e : decide (V.int (if bare n 1 1 m < 0 then -bare n 1 1 m else bare n 1 1 m) = V.int 1) = decide ((bare n 1 1 m).natAbs = 1) := by
        by_cases h : (bare n 1 1 m).natAbs = 1
        · rw [decide_eq_true h]
          refine decide_eq_true (congrArg V.int ?_)
          split <;> omega
        · rw [decide_eq_false h]
          refine decide_eq_false fun z => h ?_
          have := V.int.inj z
          split at this <;> omega
      show Q (.bl (decide (V.int (if bare n 1 1 m < 0 then -bare n 1 1 m else bare n 1 1 m) = V.int 1))) H2
      rw [e]
      exact q _ s2
theorem met_Grid_is_unimodular (T : Top K mg) (hN : base.NoSeer) (hT : P.given.tree = none) : Met P w K mg base 45 T.C_Grid "is_unimodular" (sp_Grid_is_unimodular K T.C_Grid) [] := ⟨⟨_, _, _, [], T.cl_Grid, T.m_Grid_is_unimodular, ok_Grid_is_unimodular T hN hT, T.b_Grid_is_unimodular, .nil⟩⟩

end
end K39
namespace K39
open PySem PySem.Spec PyProof.Rows L2 Gm
open C8 (Cal Met Mak pe_c pe_mt pe_mt0 pe_mk)
section
variable {P : Program} {w : World} {K : PySem.W.Frag} {mg : Str → Option Value} {base : Heap}
/-! ### transposed -/
def transp (m : List (List Int)) (w : Nat) : List (List Int) := (List.range w).map fun k => m.map fun r => r.getD k 0
theorem transp_len (m : List (List Int)) (w : Nat) : (transp m w).length = w := by
  unfold transp
  rw [List.length_map, List.length_range]
theorem transp_row {m : List (List Int)} {w : Nat} : ∀ r ∈ transp m w, r.length = m.length := fun r hr => by
  obtain ⟨k, _, rfl⟩ := List.mem_map.mp hr
  rw [List.length_map]
theorem transp_get {m : List (List Int)} {w k : Nat} (h : k < w) : (transp m w).getD k [] = m.map fun r => r.getD k 0 := by
  unfold transp
  rw [List.getD_eq_getElem?_getD, List.getElem?_map, List.getElem?_range h]
  rfl
def sp_Grid_transposed (K : PySem.W.Frag) (C : Addr) : Sp := fun vs H Q _ => ∃ v m w, vs = [v] ∧ IsGrid K C H v m w ∧ m.length ≤ 1000 ∧ w ≤ 1000 ∧ ∀ g H', Same H H' → IsGrid K C H' g (transp m w) m.length → Q g H'
theorem ok_Grid_transposed (T : Top K mg) (hN : base.NoSeer) (hT : P.given.tree = none) : FnOk P w K mg base CX0 5 T.a_Grid_transposed T.d_Grid_transposed ["self"] (sp_Grid_transposed K T.C_Grid) := by
  refine T.F_Grid_transposed.ok sc_Grid_transposed (fun vs H Q E h => ?_) (fun cdv A outer s H vs Q E hr h => ?_)
  · obtain ⟨v, m, w, rfl, _⟩ := h
    rfl
  · obtain ⟨v, m, n, rfl, G, hl, hw, q⟩ := h
    obtain ⟨⟨p, dx, t, rfl, ho, a, ws, rfl, hs, hp⟩, hrw⟩ := id G
    have lw := Paired.length hp
    refine ⟨_, (pss_cons (ps_set (i := 1) sc_Grid_transposed.nd rfl (by first | exact .inl rfl | exact .inr rfl) (pe_callTy (cr_range1) (by rfl) T.z_range (by decide +kernel) (pa_cons (fldK K rfl (pv 0) rfl) pa_nil)))
      (pss_one (ps_ret (pe_mk (mak_Grid T hN hT) hr (by decide) (by rfl) (pa_cons (pe_lc (own := [("k", 2)]) (g := (gName 2)) (by rfl) sc_Grid_transposed.nd (pi_rngv (pv 1)) ((by show BlkOk ["self", "places", "k", "row"] (defScope s_Grid_transposed) _ _; exact blkOk_by (by decide +kernel))) (fun _ _ _ _ _ => (pg_name (i := 2) sc_Grid_transposed.nd rfl (by first | exact .inl rfl | exact .inr rfl))) (fun _ _ _ _ _ => pts_nil) (fun _ _ _ _ _ => (pe_lc (own := [("row", 3)]) (g := (gName 3)) (by rfl) sc_Grid_transposed.nd (piS K rfl (fldK K rfl (pv 0) rfl)) ((by show BlkOk ["self", "places", "k", "row"] (relS _ (defScope s_Grid_transposed)) _ _; exact blkOk_by (by decide +kernel))) (fun _ _ _ _ _ => (pg_name (i := 3) sc_Grid_transposed.nd rfl (by first | exact .inl rfl | exact .inr rfl))) (fun _ _ _ _ _ => pts_nil) (fun _ _ _ _ _ => (pe_ix (ixT K rfl) (pv 3) (pv 2) (fun _ _ => rfl)))))) (pa_cons (pe_callB (lenS K rfl) (by rfl) T.z_len (by decide +kernel) (pa_cons (fldK K rfl (pv 0) rfl) pa_nil)) pa_nil)))))), ?_⟩
    -- places = range(self.width)
    refine ⟨_, rfl, p, T.C_Grid, dx, _, _, rfl, ho, T.cl_Grid, T.n_width, flds_width _ _, _, rfl, fun pr npr => ?_⟩
    have s1 : Same H (upd H pr (.rng 0 (n : Int))) := same_upd npr
    -- the outer comprehension
    refine ⟨_, rfl, pr, _, _, rfl, upd_same, ⟨by decide, by decide, by omega, by omega⟩, fun D hD => ?_⟩
    refine lc_all walk_range hD (by omega) (fun _ _ => trivial) (fun i v H4 => ∃ p, v = V.ref p ∧ p ≠ D ∧ H4 p = some (.lst (((transp m n).getD i []).map V.int))) lists_mono ?_ gm_name ?_
    · rintro i x H4 H4' acc Ko hi s4 eD ⟨rfl, rfl⟩ k
      have hi' : i < n := by omega
      refine ⟨rfl, ?_⟩
      -- the inner one
      have sm := s1.trans s4
      have ho4 := sm _ _ ho
      have hs4 := Same.seqT sm hs
      refine ⟨_, rfl, p, T.C_Grid, dx, _, _, rfl, ho4, T.cl_Grid, T.n_rows, flds_rows _ _, a, ws, rfl, .inr hs4, fun J2 G2 W2 hG2 D2 hD2 => ?_⟩
      refine lc_all W2 hD2 (by omega) (fun H5 s5 => hG2 H5 fun b _ o => s5 b o) (fun j v _ => ∃ z, ((transp m n).getD i [])[j]? = some z ∧ v = .int z) (fun _ _ _ _ _ _ _ h => h) ?_ gm_name ?_
      · rintro j y H5 H5' acc2 Ko2 hj s5 eD2 ⟨rfl, ey⟩ k2
        obtain ⟨r, er, b, rfl, hb⟩ := Paired.getR hp ey
        have hrl := hrw r (List.mem_of_getElem? er)
        refine ⟨rfl, ?_⟩
        refine ⟨_, rfl, _, rfl, b, _, _, _, rfl, rfl, Same.seqT (sm.trans s5) hb, at_of (j := i) (by omega) (ints_at (List.getElem?_eq_getElem (by omega))), ?_⟩
        refine k2 _ _ (Same.refl _) ⟨_, ?_, rfl⟩
        rw [transp_get hi', List.getElem?_map, er]
        show some (r.getD i 0) = some r[i]
        rw [List.getD_eq_getElem?_getD, List.getElem?_eq_getElem (by omega)]
        rfl
      · intro H5 l s5 eD2 hpl
        have el := ints_list (by rw [transp_get hi', List.length_map, lw]) hpl
        refine k _ _ s5 ⟨D2, rfl, ?_, by rw [← el]; exact eD2⟩
        rintro rfl
        rw [eD] at hD2
        cases hD2
    · intro H4 l s4 eD hpl
      have hrows := lists_rows (K := K) (m := transp m n) (by rw [transp_len]; omega) eD hpl
      have sm := s1.trans s4
      refine ⟨_, rfl, p, T.C_Grid, dx, _, _, rfl, sm _ _ ho, T.cl_Grid, T.n_rows, flds_rows _ _, a, ws, rfl, .inr (Same.seqT sm hs), ?_⟩
      rw [lw]
      exact make_grid hrows (by rw [transp_len]; exact hw) hl transp_row fun g H' s' G' => q g H' (sm.trans s') G'
theorem met_Grid_transposed (T : Top K mg) (hN : base.NoSeer) (hT : P.given.tree = none) : Met P w K mg base 5 T.C_Grid "transposed" (sp_Grid_transposed K T.C_Grid) [] := ⟨⟨_, _, _, [], T.cl_Grid, T.m_Grid_transposed, ok_Grid_transposed T hN hT, T.b_Grid_transposed, .nil⟩⟩
/-! ### a * b -/
def mulM (m1 m2 : List (List Int)) (w : Nat) : List (List Int) := m1.map fun r => (transp m2 w).map fun c => dotI r c
theorem mulM_len (m1 m2 : List (List Int)) (w : Nat) : (mulM m1 m2 w).length = m1.length := List.length_map ..
theorem mulM_row {m1 m2 : List (List Int)} {w : Nat} : ∀ r ∈ mulM m1 m2 w, r.length = w := fun r hr => by
  obtain ⟨k, _, rfl⟩ := List.mem_map.mp hr
  rw [List.length_map, transp_len]
theorem transp_bits {m : List (List Int)} {w B : Nat} (hw : ∀ r ∈ m, r.length = w) (hb : ∀ r ∈ m, Bits B r) : ∀ r ∈ transp m w, Bits B r := fun r hr x hx => by
  obtain ⟨k, hk, rfl⟩ := List.mem_map.mp hr
  obtain ⟨r', hr', rfl⟩ := List.mem_map.mp hx
  have hk' : k < r'.length := by rw [hw r' hr']; exact List.mem_range.mp hk
  rw [List.getD_eq_getElem?_getD, List.getElem?_eq_getElem hk']
  exact hb r' hr' _ (List.getElem_mem _)
def sp_Grid_mul (K : PySem.W.Frag) (C : Addr) : Sp := fun vs H Q _ => ∃ v1 m1 w1 v2 m2 w2 B1 B2, vs = [v1, v2] ∧ IsGrid K C H v1 m1 w1 ∧ IsGrid K C H v2 m2 w2 ∧ w1 = m2.length ∧ m1.length ≤ 1000 ∧ m2.length ≤ 1000 ∧ w2 ≤ 1000 ∧
  (∀ r ∈ m1, Bits B1 r) ∧ (∀ r ∈ m2, Bits B2 r) ∧ B1 + B2 ≤ 134217728 ∧ ∀ g H', Same H H' → IsGrid K C H' g (mulM m1 m2 w2) w2 → Q g H'
theorem ok_Grid_mul (T : Top K mg) (hN : base.NoSeer) (hT : P.given.tree = none) : FnOk P w K mg base CX0 6 T.a_Grid_mul T.d_Grid_mul ["self", "other"] (sp_Grid_mul K T.C_Grid) := by
  refine T.F_Grid_mul.ok sc_Grid_mul (fun vs H Q E h => ?_) (fun cdv A outer s H vs Q E hr h => ?_)
  · obtain ⟨v1, m1, w1, v2, m2, w2, B1, B2, rfl, _⟩ := h
    rfl
  · obtain ⟨v1, m1, w1, v2, m2, w2, B1, B2, rfl, G1, G2, hw, h1, h2, h3, b1, b2, hB, q⟩ := h
    obtain ⟨⟨p1, dx1, t1, rfl, ho1, a1, ws1, rfl, hs1, hp1⟩, hrw1⟩ := id G1
    obtain ⟨⟨p2, dx2, t2, rfl, ho2, a2, ws2, rfl, hs2, hp2⟩, hrw2⟩ := id G2
    have lw1 := Paired.length hp1
    have lw2 := Paired.length hp2
    refine ⟨_, (pss_cons (ps_if (pt_not (pt_val (pe_callB (isiK K rfl) (by rfl) T.z_isinstance (by decide +kernel) (pa_cons (pv 1) (pa_cons (pe_glob (by rfl) T.g_Grid (show RelV (.ref T.C_Grid) _ from rfl)) pa_nil)))))
      (pss_one ps_never)
      pss_nil)
      (pss_cons (ps_if (pt_cmpR op_ne (fldK K rfl (pv 0) rfl) (pe_callB (lenS K rfl) (by rfl) T.z_len (by decide +kernel) (pa_cons (fldK K rfl (pv 1) rfl) pa_nil)) (nomark _))
      (pss_one ps_never)
      pss_nil)
      (pss_cons (ps_set (i := 2) sc_Grid_mul.nd rfl (by first | exact .inl rfl | exact .inr rfl) (fldK K rfl (pe_mt0 (met_Grid_transposed T hN hT) hr (by decide) (pv 1)) rfl))
      (pss_one (ps_ret (pe_mk (mak_Grid T hN hT) hr (by decide) (by rfl) (pa_cons (pe_lc (own := [("row", 3)]) (g := (gName 3)) (by rfl) sc_Grid_mul.nd (piS K rfl (fldK K rfl (pv 0) rfl)) ((by show BlkOk ["self", "other", "columns", "row", "column"] (defScope s_Grid_mul) _ _; exact blkOk_by (by decide +kernel))) (fun _ _ _ _ _ => (pg_name (i := 3) sc_Grid_mul.nd rfl (by first | exact .inl rfl | exact .inr rfl))) (fun _ _ _ _ _ => pts_nil) (fun _ _ _ _ _ => (pe_lc (own := [("column", 4)]) (g := (gName 4)) (by rfl) sc_Grid_mul.nd (piS K rfl (pv 2)) ((by show BlkOk ["self", "other", "columns", "row", "column"] (relS _ (defScope s_Grid_mul)) _ _; exact blkOk_by (by decide +kernel))) (fun _ _ _ _ _ => (pg_name (i := 4) sc_Grid_mul.nd rfl (by first | exact .inl rfl | exact .inr rfl))) (fun _ _ _ _ _ => pts_nil) (fun _ _ _ _ _ => (pe_c (cal_dot T hN hT) hr (by decide) (by rfl) (pa_cons (pv 3) (pa_cons (pv 4) pa_nil))))))) (pa_cons (fldK K rfl (pv 1) rfl) pa_nil)))))))), ?_⟩
    -- if not isinstance(other, Grid)
    refine ⟨_, rfl, .ref p2, .ref T.C_Grid, _, _, true, rfl, .own _, .base (.ins ho2 T.cl_Grid T.kc_Grid T.kg_Grid T.kt_Grid T.km_Grid), ?_, true, rfl, ?_⟩
    · unfold PySem.W.kitOne
      rw [if_pos (beq_self_eq_true _)]
    refine iteF ?_
    -- if self.width != len(other.rows)
    refine ⟨_, rfl, p1, T.C_Grid, dx1, _, _, rfl, ho1, T.cl_Grid, T.n_width, flds_width _ _, _, rfl, p2, T.C_Grid, dx2, _, _, rfl, ho2, T.cl_Grid, T.n_rows, flds_rows _ _, a2, ws2, rfl, .inr hs2, rfl, _, rfl, ?_⟩
    refine iteNS (by rw [hw, lw2]) ?_
    -- columns = other.transposed().rows
    refine ⟨_, rfl, p2, dx2, _, rfl, ho2, m_transposed _ _, .ref p2, m2, w2, rfl, G2, h2, h3, fun g H1 s1 Gt => ?_⟩
    obtain ⟨⟨p3, dx3, t3, rfl, ho3, a3, ws3, rfl, hs3, hp3⟩, hrw3⟩ := id Gt
    have lw3 := Paired.length hp3
    rw [transp_len] at lw3
    refine ⟨p3, T.C_Grid, dx3, _, _, rfl, ho3, T.cl_Grid, T.n_rows, flds_rows _ _, ?_⟩
    -- the outer comprehension
    refine ⟨_, rfl, p1, T.C_Grid, dx1, _, _, rfl, s1 _ _ ho1, T.cl_Grid, T.n_rows, flds_rows _ _, a1, ws1, rfl, .inr (Same.seqT s1 hs1), fun J G W hG D hD => ?_⟩
    refine lc_all W hD (by omega) (fun H4 s4 => hG H4 fun b _ o => s4 b o) (fun i v H4 => ∃ p, v = V.ref p ∧ p ≠ D ∧ H4 p = some (.lst (((mulM m1 m2 w2).getD i []).map V.int))) lists_mono ?_ gm_name ?_
    · rintro i x H4 H4' acc Ko hi s4 eD ⟨rfl, ex⟩ k
      obtain ⟨r, er, hrt⟩ := Paired.getR hp1 ex
      have hrm := List.mem_of_getElem? er
      have eg : (mulM m1 m2 w2).getD i [] = (transp m2 w2).map fun c => dotI r c := by
        unfold mulM
        rw [List.getD_eq_getElem?_getD, List.getElem?_map, er]
        rfl
      refine ⟨rfl, ?_⟩
      refine ⟨_, rfl, a3, ws3, rfl, .inr (Same.seqT s4 hs3), fun J2 G2 W2 hG2 D2 hD2 => ?_⟩
      refine lc_all W2 hD2 (by omega) (fun H5 s5 => hG2 H5 fun b _ o => s5 b o) (fun j v _ => ∃ z, ((mulM m1 m2 w2).getD i [])[j]? = some z ∧ v = .int z) (fun _ _ _ _ _ _ _ h => h) ?_ gm_name ?_
      · rintro j y H5 H5' acc2 Ko2 hj s5 eD2 ⟨rfl, ey⟩ k2
        obtain ⟨c, ec, hct⟩ := Paired.getR hp3 ey
        have hcm := List.mem_of_getElem? ec
        refine ⟨rfl, ?_⟩
        refine ⟨_, rfl, _, rfl, x, y, r, c, B1, B2, rfl, hrt.same (s1.trans (s4.trans s5)), hct.same (s4.trans s5), ?_, ?_, b1 r hrm, transp_bits hrw2 b2 c hcm, hB, fun H6 s6 => ?_⟩
        · rw [hrw1 r hrm, hrw3 c hcm]
          exact hw
        · rw [hrw1 r hrm, hw]
          exact h2
        · refine k2 _ _ s6 ⟨dotI r c, ?_, rfl⟩
          rw [eg, List.getElem?_map, ec]
          rfl
      · intro H5 l s5 eD2 hpl
        have el := ints_list (by rw [eg, List.length_map, transp_len, lw3]) hpl
        refine k _ _ s5 ⟨D2, rfl, ?_, by rw [← el]; exact eD2⟩
        rintro rfl
        rw [eD] at hD2
        cases hD2
    · intro H4 l s4 eD hpl
      have hrows := lists_rows (K := K) (m := mulM m1 m2 w2) (by rw [mulM_len, lw1]) eD hpl
      have sm := s1.trans s4
      refine ⟨_, rfl, p2, T.C_Grid, dx2, _, _, rfl, sm _ _ ho2, T.cl_Grid, T.n_width, flds_width _ _, ?_⟩
      exact make_grid hrows (by rw [mulM_len]; exact h1) h3 mulM_row fun g H' s' G' => q g H' (sm.trans s') G'
/-! ### minors and the adjugate -/
def cutM (m : List (List Int)) (i j : Nat) : List (List Int) := (m.eraseIdx i).map fun r => r.eraseIdx j
theorem cutM_sq {n B : Nat} {m : List (List Int)} (h : Sq (n + 1) B m) {i j : Nat} (hi : i < n + 1) (hj : j < n + 1) : Sq n B (cutM m i j) := by
  have hi' : i < m.length := by rw [h.len]; exact hi
  refine ⟨?_, fun r hr => ?_, fun r hr => ?_⟩
  · unfold cutM
    rw [List.length_map, List.length_eraseIdx_of_lt hi', h.len]
    rfl
  · obtain ⟨r', hr', rfl⟩ := List.mem_map.mp hr
    have h1 := h.row r' (List.mem_of_mem_eraseIdx hr')
    rw [List.length_eraseIdx_of_lt (by omega), h1]
    rfl
  · obtain ⟨r', hr', rfl⟩ := List.mem_map.mp hr
    exact fun x hx => h.bits r' (List.mem_of_mem_eraseIdx hr') x (List.mem_of_mem_eraseIdx hx)
theorem erase_eq (l : List Int) (j : Nat) : l.take j ++ l.drop (j + 1) = l.eraseIdx j := (List.eraseIdx_eq_take_drop_succ l j).symm
def sp_minor (K : PySem.W.Frag) : Sp := fun vs H Q _ => ∃ (v : V) (m : List (List Int)) (n B i j : Nat), vs = [v, .int i, .int j] ∧ TRows K H v m ∧ Sq (n + 1) B m ∧ n ≤ 5 ∧ i < n + 1 ∧ j < n + 1 ∧ B ≤ 1200000 ∧ ∀ H', Same H H' → Q (.int (bare n 1 1 (cutM m i j))) H'
def sminor (n : Nat) (m : List (List Int)) (i j : Nat) : Int := if (i + j) % 2 = 1 then -bare n 1 1 (cutM m i j) else bare n 1 1 (cutM m i j)
def sp_signed_minor (K : PySem.W.Frag) : Sp := fun vs H Q _ => ∃ (v : V) (m : List (List Int)) (n B i j : Nat), vs = [v, .int i, .int j] ∧ TRows K H v m ∧ Sq (n + 1) B m ∧ n ≤ 5 ∧ i < n + 1 ∧ j < n + 1 ∧ B ≤ 1200000 ∧ ∀ H', Same H H' → Q (.int (sminor n m i j)) H'
def adjM (n : Nat) (m : List (List Int)) : List (List Int) := (List.range m.length).map fun i => (List.range m.length).map fun j => sminor n m j i
theorem adjM_get {n i : Nat} {m : List (List Int)} (h : i < m.length) : (adjM n m).getD i [] = (List.range m.length).map fun j => sminor n m j i := by
  unfold adjM
  rw [List.getD_eq_getElem?_getD, List.getElem?_map, List.getElem?_range h]
  rfl
theorem adjM_len (n : Nat) (m : List (List Int)) : (adjM n m).length = m.length := by
  unfold adjM
  rw [List.length_map, List.length_range]
theorem adjM_row {n : Nat} {m : List (List Int)} : ∀ r ∈ adjM n m, r.length = m.length := fun r hr => by
  obtain ⟨k, _, rfl⟩ := List.mem_map.mp hr
  rw [List.length_map, List.length_range]
def sp_adjugate_of (K : PySem.W.Frag) : Sp := fun vs H Q _ => ∃ (v : V) (m : List (List Int)) (n B : Nat), vs = [v] ∧ TRows K H v m ∧ Sq n B m ∧ n ≤ 5 ∧ B ≤ 1200000 ∧ ∀ v' H', Same H H' → IRows K H' v' (adjM (n - 1) m) → Q v' H'
def sp_Grid_adjugate (K : PySem.W.Frag) (C : Addr) : Sp := fun vs H Q _ => ∃ v m n B, vs = [v] ∧ IsGrid K C H v m n ∧ Sq n B m ∧ n ≤ 5 ∧ B ≤ 1200000 ∧ ∀ g H', Same H H' → IsGrid K C H' g (adjM (n - 1) m) n → Q g H'

end
end K39
namespace K39
open PySem PySem.Spec PyProof.Rows L2 Gm
open C8 (Cal Met Mak pe_c pe_mt pe_mt0 pe_mk)
section
variable {P : Program} {w : World} {K : PySem.W.Frag} {mg : Str → Option Value} {base : Heap}
/-! ### scaled -/
def scaleM (k : Int) (m : List (List Int)) : List (List Int) := m.map fun r => r.map fun x => k * x
theorem scaleM_len (k : Int) (m : List (List Int)) : (scaleM k m).length = m.length := List.length_map ..
theorem scaleM_row {k : Int} {m : List (List Int)} {w : Nat} (h : ∀ r ∈ m, r.length = w) : ∀ r ∈ scaleM k m, r.length = w := fun r hr => by
  obtain ⟨x, hx, rfl⟩ := List.mem_map.mp hr
  rw [List.length_map]
  exact h x hx
def sp_Grid_scaled (K : PySem.W.Frag) (C : Addr) : Sp := fun vs H Q _ => ∃ v m w k Bk B, vs = [v, .int k] ∧ IsGrid K C H v m w ∧ m.length ≤ 1000 ∧ w ≤ 1000 ∧ k.natAbs < 2 ^ Bk ∧ (∀ r ∈ m, Bits B r) ∧ Bk + B ≤ 134217728 ∧ ∀ g H', Same H H' → IsGrid K C H' g (scaleM k m) w → Q g H'
theorem m_scaled (t : V) (w : Nat) : (flds t w).lookup ("scaled" : Str) = none := flds_no t w (by decide +kernel) (by decide +kernel)
theorem m_times (t : V) (w : Nat) : (flds t w).lookup ("times" : Str) = none := flds_no t w (by decide +kernel) (by decide +kernel)
theorem m_before (t : V) (w : Nat) : (flds t w).lookup ("before" : Str) = none := flds_no t w (by decide +kernel) (by decide +kernel)
theorem m_stacked (t : V) (w : Nat) : (flds t w).lookup ("stacked" : Str) = none := flds_no t w (by decide +kernel) (by decide +kernel)
/-! ### -a -/
def sp_Grid_neg (K : PySem.W.Frag) (C : Addr) : Sp := fun vs H Q _ => ∃ v m w B, vs = [v] ∧ IsGrid K C H v m w ∧ m.length ≤ 1000 ∧ w ≤ 1000 ∧ (∀ r ∈ m, Bits B r) ∧ B ≤ 1200000 ∧ ∀ g H', Same H H' → IsGrid K C H' g (scaleM (-1) m) w → Q g H'
def timesM (m : List (List Int)) (r : List Int) : List Int := m.map fun o => dotI o r
def sp_Grid_times (K : PySem.W.Frag) (C : Addr) : Sp := fun vs H Q _ => ∃ v m w u r B1 B2, vs = [v, u] ∧ IsGrid K C H v m w ∧ TRow K H u r ∧ r.length = w ∧ m.length ≤ 1000 ∧ w ≤ 1000 ∧ (∀ o ∈ m, Bits B1 o) ∧ Bits B2 r ∧ B1 + B2 ≤ 134217728 ∧ ∀ v' H', Same H H' → TRow K H' v' (timesM m r) → Q v' H'
def sp_Grid_before (K : PySem.W.Frag) (C : Addr) : Sp := fun vs H Q _ => ∃ v m w u r B1 B2, vs = [v, u] ∧ IsGrid K C H v m w ∧ TRow K H u r ∧ r.length = m.length ∧ m.length ≤ 1000 ∧ w ≤ 1000 ∧ (∀ o ∈ m, Bits B1 o) ∧ Bits B2 r ∧ B1 + B2 ≤ 134217728 ∧ ∀ v' H', Same H H' → TRow K H' v' (timesM (transp m w) r) → Q v' H'

end
end K39
namespace K39
open PySem PySem.Spec PyProof.Rows L2 Gm
open C8 (Cal Met Mak pe_c pe_mt pe_mt0 pe_mk)
section
variable {P : Program} {w : World} {K : PySem.W.Frag} {mg : Str → Option Value} {base : Heap}
/-! ### tables as data -/
def pdR (r : List Int) : PyData := .tuple (r.map .int)
def pdM (m : List (List Int)) : PyData := .tuple (m.map pdR)
theorem dp_ints {K : PySem.W.Frag} {H : Hp} : ∀ r : List Int, DpAll K H (r.map V.int) (r.map PyData.int)
  | [] => .nil
  | _ :: r => .cons (.int _) (dp_ints r)
theorem dp_row {K : PySem.W.Frag} {H : Hp} {v : V} {r : List Int} (h : TRow K H v r) : Dp K H v (pdR r) := by
  obtain ⟨a, rfl, hs⟩ := h
  exact .tup hs (dp_ints r)
theorem dp_paired {K : PySem.W.Frag} {H : Hp} : ∀ {vs : List V} {m : List (List Int)}, Paired (TRow K H) vs m → DpAll K H vs (m.map pdR)
  | _, _, .nil => .nil
  | _, _, .cons r t => .cons (dp_row r) (dp_paired t)
theorem dp_rows {K : PySem.W.Frag} {H : Hp} {v : V} {m : List (List Int)} (h : TRows K H v m) : Dp K H v (pdM m) := by
  obtain ⟨a, vs, rfl, hs, hp⟩ := h
  exact .tup hs (dp_paired hp)
theorem lay_ints : ∀ r : List Int, PyData.canLayAll0 (r.map PyData.int) = true
  | [] => by simp [PyData.canLayAll0]
  | _ :: r => by simp [PyData.canLayAll0, PyData.canLay0, lay_ints r]
theorem lay_rows : ∀ m : List (List Int), PyData.canLayAll0 (m.map pdR) = true
  | [] => by simp [PyData.canLayAll0]
  | r :: m => by simp [PyData.canLayAll0, PyData.canLay0, pdR, lay_rows m, lay_ints r]
theorem lay_pdM (m : List (List Int)) : (pdM m).canLay0 = true := by simp [pdM, PyData.canLay0, lay_rows m]
theorem dep_ints : ∀ r : List Int, PyData.depthAll (r.map PyData.int) = 0
  | [] => by simp [PyData.depthAll]
  | _ :: r => by simp [PyData.depthAll, PyData.depth, dep_ints r]
theorem dep_rows : ∀ m : List (List Int), PyData.depthAll (m.map pdR) ≤ 1
  | [] => by simp [PyData.depthAll]
  | r :: m => by
    have := dep_rows m
    simp only [List.map_cons, PyData.depthAll, PyData.depth, pdR, dep_ints r]
    omega
theorem shaped_pdM (m : List (List Int)) : SeqAt.shaped (pdM m) = true := by
  unfold SeqAt.shaped
  rw [Bool.and_eq_true, lay_pdM]
  refine ⟨rfl, decide_eq_true ?_⟩
  have := dep_rows m
  simp only [pdM, PyData.depth]
  omega
/-- equal tables are equal -/
theorem ne_rows {K : PySem.W.Frag} {H : Hp} {v u : V} {m1 m2 : List (List Int)} {Q : VK} (h1 : TRows K H v m1) (h2 : TRows K H u m2) (e : m1 = m2) (q : Q (.bl false) H) : rNeD K v u H Q := by
  subst e
  refine ⟨pdM m1, pdM m1, dp_rows h1, dp_rows h2, shaped_pdM _, shaped_pdM _, ?_⟩
  rw [PySem.SeqAt.eqv_refl _ (lay_pdM m1)]
  exact q

end
end K39
namespace K39
open PySem PySem.Spec PyProof.Rows L2 Gm
open C8 (Cal Met Mak pe_c pe_mt pe_mt0 pe_mk)
section
variable {P : Program} {w : World} {K : PySem.W.Frag} {mg : Str → Option Value} {base : Heap}
theorem row_ty {K : PySem.W.Frag} {H : Hp} {a : Addr} {xs : List V} (h : SqT K H a xs) : TyX K H (.ref a) (.type "tuple") := by
  rcases h with (h | ⟨o, h⟩) | ⟨o, its, n, h, c, _⟩
  · exact .base (.tup h)
  · exact .fTuple h
  · exact .kTuple h c

end
end K39
namespace K39
open PySem PySem.Spec PyProof.Rows L2 Gm
open C8 (Cal Met Mak pe_c pe_mt pe_mt0 pe_mk)
section
variable {P : Program} {w : World} {K : PySem.W.Frag} {mg : Str → Option Value} {base : Heap}
theorem eqv_ints : ∀ r q : List Int, PyData.eqvAll (r.map PyData.int) (q.map PyData.int) = decide (r = q)
  | [], [] => by simp [PyData.eqvAll]
  | [], b :: q => by simp [PyData.eqvAll]
  | a :: r, [] => by simp [PyData.eqvAll]
  | a :: r, b :: q => by
    simp only [List.map_cons, PyData.eqvAll, PyData.eqv, eqv_ints r q]
    by_cases h : a = b
    · subst h
      by_cases h2 : r = q
      · subst h2
        simp
      · simp [h2]
    · simp [h]
theorem eqv_rows : ∀ m l : List (List Int), PyData.eqvAll (m.map pdR) (l.map pdR) = decide (m = l)
  | [], [] => by simp [PyData.eqvAll]
  | [], b :: q => by simp [PyData.eqvAll]
  | a :: r, [] => by simp [PyData.eqvAll]
  | a :: r, b :: q => by
    simp only [List.map_cons, PyData.eqvAll, pdR, PyData.eqv, eqv_ints a b]
    have ih := eqv_rows r q
    rw [ih]
    by_cases h : a = b
    · subst h
      by_cases h2 : r = q
      · subst h2
        simp
      · simp [h2]
    · simp [h]
theorem eqv_pdM (m l : List (List Int)) : PyData.eqv (pdM m) (pdM l) = decide (m = l) := by
  simp only [pdM, PyData.eqv]
  exact eqv_rows m l
theorem eq_rows {K : PySem.W.Frag} {H : Hp} {v u : V} {m1 m2 : List (List Int)} {Q : VK} (h1 : TRows K H v m1) (h2 : TRows K H u m2) (q : Q (.bl (decide (m1 = m2))) H) : rEqD K v u H Q := by
  refine ⟨pdM m1, pdM m2, dp_rows h1, dp_rows h2, shaped_pdM _, shaped_pdM _, ?_⟩
  rw [eqv_pdM]
  exact q
theorem tup_not {K : PySem.W.Frag} {C : Addr} : PySem.W.subIn K (.type "tuple") (.ref C) = some false := by
  have e : fastBuiltinMro "tuple" = some [.type "tuple", .type "object"] := by decide +kernel
  show (fastBuiltinMro "tuple").map (·.contains (.ref C)) = some false
  rw [e] <;> rfl
/-! ### a == b -/
def sp_Grid_eq (K : PySem.W.Frag) (C : Addr) : Sp := fun vs H Q _ => ∃ v m w u m2, vs = [v, u] ∧ IsGrid K C H v m w ∧ ((∃ w2, IsGrid K C H u m2 w2 ∧ Q (.bl (decide (m = m2 ∧ w = w2))) H) ∨ (TRows K H u m2 ∧ Q (.bl false) H))
theorem ok_Grid_eq (T : Top K mg) (hN : base.NoSeer) (hT : P.given.tree = none) : FnOk P w K mg base CX0 1 T.a_Grid_eq T.d_Grid_eq ["self", "other"] (sp_Grid_eq K T.C_Grid) := by
  refine T.F_Grid_eq.ok sc_Grid_eq (fun vs H Q E h => ?_) (fun cdv A outer s H vs Q E hr h => ?_)
  · obtain ⟨v, m, w, u, m2, rfl, _⟩ := h
    rfl
  · obtain ⟨v, m, n, u, m2, rfl, G, q⟩ := h
    obtain ⟨⟨p, dx, t, rfl, ho, ht⟩, hrw⟩ := id G
    refine ⟨_, (pss_one (ps_ret (pe_and (pe_callB (isiK K rfl) (by rfl) T.z_isinstance (by decide +kernel) (pa_cons (pv 1) (pa_cons (pe_glob (by rfl) T.g_Grid (show RelV (.ref T.C_Grid) _ from rfl)) pa_nil))) (pe_and (pe_cmpR (eqDK K rfl hr) (fldK K rfl (pv 0) rfl) (fldK K rfl (pv 1) rfl) (nomark _)) (pe_one (pe_cmpR op_eq (fldK K rfl (pv 0) rfl) (fldK K rfl (pv 1) rfl) (nomark _))))))), ?_⟩
    rcases q with ⟨w2, G2, q⟩ | ⟨hu, q⟩
    · obtain ⟨⟨p2, dx2, t2, rfl, ho2, ht2⟩, hrw2⟩ := id G2
      refine ⟨_, rfl, .ref p2, .ref T.C_Grid, _, _, true, rfl, .own _, .base (.ins ho2 T.cl_Grid T.kc_Grid T.kg_Grid T.kt_Grid T.km_Grid), ?_, true, rfl, ?_⟩
      · unfold PySem.W.kitOne
        rw [if_pos (beq_self_eq_true _)]
      refine iteT ?_
      refine ⟨_, rfl, p, T.C_Grid, dx, _, _, rfl, ho, T.cl_Grid, T.n_rows, flds_rows _ _, _, rfl, p2, T.C_Grid, dx2, _, _, rfl, ho2, T.cl_Grid, T.n_rows, flds_rows _ _, eq_rows ht ht2 ⟨_, rfl, ?_⟩⟩
      by_cases hm : m = m2
      · rw [decide_eq_true hm]
        refine iteT ?_
        refine ⟨_, rfl, p, T.C_Grid, dx, _, _, rfl, ho, T.cl_Grid, T.n_width, flds_width _ _, _, rfl, p2, T.C_Grid, dx2, _, _, rfl, ho2, T.cl_Grid, T.n_width, flds_width _ _, rfl, ?_⟩
        have e : decide (V.int (n : Int) = V.int (w2 : Int)) = decide (m = m2 ∧ n = w2) := by
          by_cases hw : n = w2
          · rw [decide_eq_true (show m = m2 ∧ n = w2 from ⟨hm, hw⟩), decide_eq_true (by rw [hw])]
          · rw [decide_eq_false (fun z : m = m2 ∧ n = w2 => hw z.2), decide_eq_false (fun z => hw (by have := V.int.inj z; omega))]
        show Q (.bl (decide (V.int (n : Int) = V.int (w2 : Int)))) H
        rw [e]
        exact q
      · rw [decide_eq_false hm]
        refine iteF ?_
        rw [decide_eq_false (fun z : m = m2 ∧ n = w2 => hm z.1)] at q
        exact q
    · obtain ⟨a, ws, rfl, hs, hp⟩ := id hu
      refine ⟨_, rfl, .ref a, .ref T.C_Grid, _, _, false, rfl, .own _, row_ty hs, ?_, false, rfl, ?_⟩
      · show (if (Value.type "tuple" == Value.ref T.C_Grid) = true then some true else if ((PySem.W.clsIn K T.C_Grid).isSome && PySem.W.typeIn K (.ref T.C_Grid) == some (.type "type")) = true then PySem.W.subIn K (.type "tuple") (.ref T.C_Grid) else none) = some false
        have e2 : ((PySem.W.clsIn K T.C_Grid).isSome && PySem.W.typeIn K (.ref T.C_Grid) == some (.type "type")) = true := by
          have e := T.ic_Grid
          have e' : (PySem.W.clsIn K T.C_Grid).isSome = true := e
          rw [e', T.ty_Grid] <;> rfl
        rw [if_neg (by simp), if_pos e2]
        exact tup_not
      exact iteF q
/-! ### stacked -/
theorem paired_app {α β : Type} {F : α → β → Prop} : ∀ {xs : List α} {ys : List β} {xs2 : List α} {ys2 : List β}, Paired F xs ys → Paired F xs2 ys2 → Paired F (xs ++ xs2) (ys ++ ys2)
  | _, _, _, _, .nil, h => h
  | _, _, _, _, .cons r t, h => .cons r (paired_app t h)
def sp_Grid_stacked (K : PySem.W.Frag) (C : Addr) : Sp := fun vs H Q _ => ∃ v m w u m2, vs = [v, u] ∧ IsGrid K C H v m w ∧ IsGrid K C H u m2 w ∧ m.length + m2.length ≤ 1000 ∧ w ≤ 1000 ∧ ∀ g H', Same H H' → IsGrid K C H' g (m ++ m2) w → Q g H'

end
end K39
namespace K39
open PySem PySem.Spec PyProof.Rows L2 Gm
open C8 (Cal Met Mak pe_c pe_mt pe_mt0 pe_mk)
section
variable {P : Program} {w : World} {K : PySem.W.Frag} {mg : Str → Option Value} {base : Heap}
theorem bools_list : ∀ {is : List Nat} {l : List V} {f : Nat → Bool}, Paired (fun i v => v = V.bl (f i)) is l → l = (is.map f).map V.bl
  | _, _, _, .nil => rfl
  | _, _, _, .cons r t => by
    rw [r, bools_list t]
    rfl
theorem not_all {f : Nat → Bool} {n i : Nat} (hi : i < n) (h : f i = false) : ((List.range n).map f).all id = false := by
  rw [List.all_eq_false]
  exact ⟨false, List.mem_map.mpr ⟨i, List.mem_range.mpr hi, h⟩, by simp⟩

end
end K39
namespace K39
open PySem PySem.Spec PyProof.Rows L2 Gm
open C8 (Cal Met Mak pe_c pe_mt pe_mt0 pe_mk)
section
variable {P : Program} {w : World} {K : PySem.W.Frag} {mg : Str → Option Value} {base : Heap}
/-! ### the width that isn't told -/
def sp_checked_width_N (K : PySem.W.Frag) : Sp := fun vs H Q _ => ∃ (v : V) (m : List (List Int)) (w : Nat), vs = [v, .non] ∧ TRows K H v m ∧ 0 < m.length ∧ m.length ≤ 1000 ∧ (∀ r ∈ m, r.length = w) ∧ ∀ H', Same H H' → Q (.int w) H'
theorem ok_checked_width_N (T : Top K mg) (hN : base.NoSeer) (hT : P.given.tree = none) : FnOk P w K mg base CX0 2 T.a_checked_width T.d_checked_width ["rows", "width"] (sp_checked_width_N K) := by
  refine T.F_checked_width.ok sc_checked_width (fun vs H Q E h => ?_) (fun cdv A outer s H vs Q E hr h => ?_)
  · obtain ⟨v, m, w, rfl, _⟩ := h
    rfl
  · obtain ⟨v, m, w, rfl, hm, h0, hl, hw, q⟩ := h
    obtain ⟨a, ws, rfl, hs, hp⟩ := id hm
    have lw := Paired.length hp
    obtain ⟨v0, ev0⟩ : ∃ v0, ws[0]? = some v0 := ⟨ws[0]'(by omega), List.getElem?_eq_getElem (by omega)⟩
    obtain ⟨r0, er0, b0, rfl, hb0⟩ := Paired.getR hp ev0
    have hr0 := hw r0 (List.mem_of_getElem? er0)
    refine ⟨_, (pss_cons (ps_if (pt_cmpR op_isN (pv 1) pe_non (nomark _))
      (pss_one (ps_set (i := 1) sc_checked_width.nd rfl (by first | exact .inl rfl | exact .inr rfl) (pe_ifExp (pt_cmpR op_gt (pe_callB (lenS K rfl) (by rfl) T.z_len (by decide +kernel) (pa_cons (pv 0) pa_nil)) pe_int (nomark _)) (pe_callB (lenS K rfl) (by rfl) T.z_len (by decide +kernel) (pa_cons (pe_ix (ixT K rfl) (pv 0) pe_int (fun _ _ => rfl)) pa_nil)) pe_int)))
      pss_nil)
      (pss_cons (ps_if (PW.pt (pw_or (pt_not (pt_val (pe_c (cal_is_integer T hN hT) hr (by decide) (by rfl) (pa_cons (pv 1) pa_nil)))) (pw_or1 (pt_cmpR op_lt (pv 1) pe_int (nomark _)))))
      (pss_one ps_never)
      pss_nil)
      (pss_cons (ps_if (pt_not (pt_val (pe_callB (allK K rfl rfl) (by rfl) T.z_all (by decide +kernel) (pa_cons (pe_lc (own := [("row", 2)]) (g := (gName 2)) (by rfl) sc_checked_width.nd (piS K rfl (pv 0)) ((by show BlkOk ["rows", "width", "row"] (defScope s_checked_width) _ _; exact blkOk_by (by decide +kernel))) (fun _ _ _ _ _ => (pg_name (i := 2) sc_checked_width.nd rfl (by first | exact .inl rfl | exact .inr rfl))) (fun _ _ _ _ _ => pts_nil) (fun _ _ _ _ _ => (pe_cmpR op_eq (pe_callB (lenS K rfl) (by rfl) T.z_len (by decide +kernel) (pa_cons (pv 2) pa_nil)) (pv 1) (nomark _)))) pa_nil))))
      (pss_one ps_never)
      pss_nil)
      (pss_one (ps_ret (pv 1)))))), ?_⟩
    refine ⟨_, rfl, rfl, _, rfl, ?_⟩
    rw [decide_eq_true rfl]
    refine iteT ?_
    refine ⟨_, rfl, a, ws, rfl, .inr hs, _, _, rfl, rfl, _, rfl, ?_⟩
    rw [decide_eq_true (by omega)]
    refine iteT ?_
    refine ⟨_, rfl, a, ws, _, _, rfl, rfl, hs, atI_nat (j := 0) ev0, b0, _, rfl, .inr hb0, ?_⟩
    rw [List.length_map, hr0]
    refine ⟨_, rfl, _, rfl, true, rfl, iteF ⟨_, rfl, _, _, rfl, rfl, _, rfl, ?_⟩⟩
    rw [decide_eq_false (by omega)]
    refine iteF ?_
    refine ⟨_, rfl, a, ws, rfl, .inr hs, fun J2 G2 W2 hG2 D hD => ?_⟩
    refine lc_all W2 hD (by omega) (fun H4 s4 => hG2 H4 fun b _ o => s4 b o) (fun _ v _ => v = .bl true) (fun _ _ _ _ _ _ _ h => h) ?_ gm_name ?_
    · rintro i x H4 H4' acc Ko hi s4 eD ⟨rfl, ex⟩ k
      obtain ⟨r, er, b, rfl, hb⟩ := Paired.getR hp ex
      refine ⟨rfl, ?_⟩
      refine ⟨_, rfl, b, _, rfl, .inr (Same.seqT s4 hb), _, rfl, rfl, ?_⟩
      rw [List.length_map, hw r (List.mem_of_getElem? er), decide_eq_true rfl]
      exact k _ _ (Same.refl _) rfl
    · intro H4 l s4 eD hl2
      refine ⟨D, List.replicate l.length true, rfl, .inl (.inl (by rw [← paired_true hl2]; exact eD)), true, by rw [all_true], ?_⟩
      refine iteF ?_
      exact ⟨_, rfl, q _ s4⟩
theorem cal_checked_width_N (T : Top K mg) (hN : base.NoSeer) (hT : P.given.tree = none) : Cal P w K mg base 2 "checked_width" (sp_checked_width_N K) [] := ⟨⟨_, _, _, [], ok_checked_width_N T hN hT, T.g_checked_width, T.F_checked_width.kp, T.b_checked_width, .nil⟩⟩
def sp_checked_width_NX (K : PySem.W.Frag) (X : Addr) : Sp := fun vs H _ E => ∃ (v : V) (m : List (List Int)) (i : Nat), vs = [v, .non] ∧ TRows K H v m ∧ 0 < m.length ∧ m.length ≤ 1000 ∧ (∃ r0 r, m[0]? = some r0 ∧ m[i]? = some r ∧ r.length ≠ r0.length) ∧ ∀ H', Same H H' → E (.ref X) none H'
theorem ok_checked_width_NX (T : Top K mg) (hN : base.NoSeer) (hT : P.given.tree = none) : FnOk P w K mg base (L2.CX P w) 2 T.a_checked_width T.d_checked_width ["rows", "width"] (sp_checked_width_NX K T.X_Malformed) := by
  refine T.F_checked_width.okX sc_checked_width (fun vs H Q E h => ?_) (fun cdv A outer s H vs Q E hr h => ?_)
  · obtain ⟨v, m, i, rfl, _⟩ := h
    rfl
  · obtain ⟨v, m, i0, rfl, hm, h0, hl, ⟨r0, r1, er0, er1, hne⟩, q⟩ := h
    obtain ⟨a, ws, rfl, hs, hp⟩ := id hm
    have lw := Paired.length hp
    obtain ⟨v0, ev0, b0, rfl, hb0⟩ := Paired.getR (Paired.swap hp) er0
    refine ⟨_, (pss_cons (ps_if (pt_cmpR op_isN (pv 1) pe_non (nomark _))
      (pss_one (ps_set (i := 1) sc_checked_width.nd rfl (by first | exact .inl rfl | exact .inr rfl) (pe_ifExp (pt_cmpR op_gt (pe_callB (lenS K rfl) (by rfl) T.z_len (by decide +kernel) (pa_cons (pv 0) pa_nil)) pe_int (nomark _)) (pe_callB (lenS K rfl) (by rfl) T.z_len (by decide +kernel) (pa_cons (pe_ix (ixT K rfl) (pv 0) pe_int (fun _ _ => rfl)) pa_nil)) pe_int)))
      pss_nil)
      (pss_cons (ps_if (PW.pt (pw_or (pt_not (pt_val (pe_c (cal_is_integer T hN hT) hr (by decide) (by rfl) (pa_cons (pv 1) pa_nil)))) (pw_or1 (pt_cmpR op_lt (pv 1) pe_int (nomark _)))))
      (pss_one ps_never)
      pss_nil)
      (pss_cons (ps_if (pt_not (pt_val (pe_callB (allK K rfl rfl) (by rfl) T.z_all (by decide +kernel) (pa_cons (pe_lc (own := [("row", 2)]) (g := (gName 2)) (by rfl) sc_checked_width.nd (piS K rfl (pv 0)) ((by show BlkOk ["rows", "width", "row"] (defScope s_checked_width) _ _; exact blkOk_by (by decide +kernel))) (fun _ _ _ _ _ => (pg_name (i := 2) sc_checked_width.nd rfl (by first | exact .inl rfl | exact .inr rfl))) (fun _ _ _ _ _ => pts_nil) (fun _ _ _ _ _ => (pe_cmpR op_eq (pe_callB (lenS K rfl) (by rfl) T.z_len (by decide +kernel) (pa_cons (pv 2) pa_nil)) (pv 1) (nomark _)))) pa_nil))))
      (pss_one (ps_raise rfl (takes_of rfl rfl rfl rfl) (pmk_own PySem.F.excBase_ValueError T.xX_Malformed T.gX_Malformed T.kX_Malformed (raises_own T.bX_Malformed T.tX_Malformed) (by exact rfl))))
      pss_nil)
      (pss_one (ps_ret (pv 1)))))), ?_⟩
    refine ⟨_, rfl, rfl, _, rfl, ?_⟩
    rw [decide_eq_true rfl]
    refine iteT ?_
    refine ⟨_, rfl, a, ws, rfl, .inr hs, _, _, rfl, rfl, _, rfl, ?_⟩
    rw [decide_eq_true (by omega)]
    refine iteT ?_
    refine ⟨_, rfl, a, ws, _, _, rfl, rfl, hs, atI_nat (j := 0) ev0, b0, _, rfl, .inr hb0, ?_⟩
    rw [List.length_map]
    refine ⟨_, rfl, _, rfl, true, rfl, iteF ⟨_, rfl, _, _, rfl, rfl, _, rfl, ?_⟩⟩
    rw [decide_eq_false (by omega)]
    refine iteF ?_
    refine ⟨_, rfl, a, ws, rfl, .inr hs, fun J2 G2 W2 hG2 D hD => ?_⟩
    refine lc_all W2 hD (by omega) (fun H4 s4 => hG2 H4 fun b _ o => s4 b o) (fun i v _ => v = .bl (decide ((m.getD i []).length = r0.length))) (fun _ _ _ _ _ _ _ h => h) ?_ gm_name ?_
    · rintro i x H4 H4' acc Ko hi s4 eD ⟨rfl, ex⟩ k
      obtain ⟨r, er, b, rfl, hb⟩ := Paired.getR hp ex
      refine ⟨rfl, ?_⟩
      refine ⟨_, rfl, b, _, rfl, .inr (Same.seqT s4 hb), _, rfl, rfl, ?_⟩
      refine k _ _ (Same.refl _) ?_
      rw [List.getD_eq_getElem?_getD, er, List.length_map]
      show V.bl (decide (V.int (r.length : Int) = V.int (r0.length : Int))) = V.bl (decide (r.length = r0.length))
      refine congrArg V.bl ?_
      by_cases h : r.length = r0.length
      · rw [decide_eq_true h, decide_eq_true (by rw [h])]
      · rw [decide_eq_false h, decide_eq_false (fun z => h (by have := V.int.inj z; omega))]
    · intro H4 l s4 eD hl2
      refine ⟨D, (List.range ws.length).map fun i => decide ((m.getD i []).length = r0.length), rfl, .inl (.inl (by rw [← bools_list hl2]; exact eD)), false, ?_, ?_⟩
      · have hi0 : i0 < m.length := (List.getElem?_eq_some_iff.mp er1).1
        rw [not_all (i := i0) (by omega) (by rw [List.getD_eq_getElem?_getD, er1]; exact decide_eq_false hne)]
      · refine iteT ?_
        exact q _ s4
/-! ### the constructor without a width; that raises -/
def sp_Grid_init_N (K : PySem.W.Frag) (C : Addr) : Sp := fun vs H Q _ => ∃ (p dx : Addr) (v : V) (m : List (List Int)) (w : Nat), vs = [.ref p, v, .non] ∧ H p = some (.ins C dx []) ∧ IRows K H v m ∧ 0 < m.length ∧ m.length ≤ 1000 ∧ w ≤ 1000 ∧ (∀ r ∈ m, r.length = w) ∧
  ∀ t H', Off p H H' → H' p = some (.ins C dx (flds t w)) → TRows K H' t m → Q .non H'
theorem ok_Grid_init_N (T : Top K mg) (hN : base.NoSeer) (hT : P.given.tree = none) : FnOk P w K mg base CX0 3 T.a_Grid_init T.d_Grid_init ["self", "rows", "width"] (sp_Grid_init_N K T.C_Grid) := by
  refine T.F_Grid_init.ok sc_Grid_init (fun vs H Q E h => ?_) (fun cdv A outer s H vs Q E hr h => ?_)
  · obtain ⟨p, dx, v, m, w, rfl, _⟩ := h
    rfl
  · obtain ⟨p, dx, v, m, w, rfl, hp, hm, h0, hl, hw, hrw, q⟩ := h
    refine ⟨_, PSs.nox (pss_cons (ps_fld (pv 0) (pe_c (cal_checked_rows T hN hT) hr (by decide) (by rfl) (pa_cons (pv 1) pa_nil)) rfl)
      (pss_one (ps_fld (pv 0) (pe_c (cal_checked_width_N T hN hT) hr (by decide) (by rfl) (pa_cons (fldK K rfl (pv 0) rfl) (pa_cons (pv 2) pa_nil))) rfl))), ?_⟩
    refine ⟨_, rfl, v, m, rfl, hm, hl, fun r hr => by rw [hrw r hr]; exact hw, fun t H1 s1 ht => ?_⟩
    have hp1 := s1 _ _ hp
    refine ⟨_, rfl, p, T.C_Grid, dx, [], rfl, hp1, T.cl_Grid, T.n_rows, by show 0 < 1000; decide, ?_⟩
    refine ⟨_, rfl, p, T.C_Grid, dx, _, t, rfl, upd_same, T.cl_Grid, T.n_rows, ?_, ?_⟩
    · rw [lookup_putF, if_pos rfl]
    have ht2 : TRows K (upd H1 p (.ins T.C_Grid dx (putF "rows" t []))) t m := trows_off hp1 Off.upd ht
    refine ⟨_, rfl, t, m, w, rfl, ht2, h0, hl, hrw, fun H2 s2 => ?_⟩
    have hp2 := s2 _ _ upd_same
    refine ⟨_, rfl, p, T.C_Grid, dx, _, rfl, hp2, T.cl_Grid, T.n_width, by show 1 < 1000; decide, ?_⟩
    refine q t _ (fun b o n e => ?_) upd_same (trows_off hp2 Off.upd (ht2.same s2))
    rw [upd_ne n]
    exact s2 _ _ (Off.upd _ _ n (s1 _ _ e))

end
end K39
namespace K39
open PySem PySem.Spec PyProof.Rows L2 Gm
open C8 (Cal Met Mak pe_c pe_mt pe_mt0 pe_mk)
section
variable {P : Program} {w : World} {K : PySem.W.Frag} {mg : Str → Option Value} {base : Heap}
/-- the state of the draws: two numbers, the first not negative -/
def StAt (H : Hp) (p : Addr) : Prop := ∃ s t : Int, H p = some (.lst [.int s, .int t]) ∧ 0 ≤ s
def sp_law_state (K : PySem.W.Frag) : Sp := fun vs H Q _ => ∃ (a : Addr) (ns : List Int), vs = [.ref a] ∧ SqL K H a (ns.map V.int) ∧ ns.length ≤ 63 ∧ ∀ p H', Same H H' → H p = none → StAt H' p → Q (.ref p) H'
theorem ok_law_state (T : Top K mg) (hN : base.NoSeer) (hT : P.given.tree = none) : FnOk P w K mg base CX0 1 T.a_law_state T.d_law_state ["script"] (sp_law_state K) := by
  refine T.F_law_state.ok sc_law_state (fun vs H Q E h => ?_) (fun cdv A outer s H vs Q E hr h => ?_)
  · obtain ⟨a, ns, rfl, _⟩ := h
    rfl
  · obtain ⟨a, ns, rfl, hs, hl, q⟩ := h
    refine ⟨_, (pss_cons (ps_set (i := 1) sc_law_state.nd rfl (by first | exact .inl rfl | exact .inr rfl) pe_int)
      (pss_cons (ps_set (i := 2) sc_law_state.nd rfl (by first | exact .inl rfl | exact .inr rfl) pe_int)
      (pss_cons (ps_for PassesOwn.never rfl (piS K rfl (pe_slice (slLK K rfl) (pv 0) po_none (po_some pe_int))) (pg_name (i := 3) sc_law_state.nd rfl (by first | exact .inl rfl | exact .inr rfl))
      (pss_cons (ps_set (i := 1) sc_law_state.nd rfl (by first | exact .inl rfl | exact .inr rfl) (pe_op op_add (pe_op op_mul (pv 1) pe_int) (pe_callB (call_abs) (by rfl) T.z_abs (by decide +kernel) (pa_cons (pv 3) pa_nil))))
      (pss_one (ps_set (i := 2) sc_law_state.nd rfl (by first | exact .inl rfl | exact .inr rfl) (pe_op op_mod (pe_callTy (call_int1) (by rfl) T.z_int (by decide +kernel) (pa_cons (pe_op op_add (pe_op op_mul (pv 2) pe_int) (pv 3)) pa_nil)) pe_int)))))
      (pss_one (ps_ret (pe_lst (pa_cons (pv 1) (pa_cons (pv 2) pa_nil)))))))), ?_⟩
    refine ⟨_, rfl, 63, rfl, a, _, rfl, hs, fun p np => ?_⟩
    have s1 : Same H (upd H p (.lst (cutV (ns.map V.int) none (some 63)))) := same_upd np
    have ec : cutV (ns.map V.int) none (some 63) = ns.map V.int := by
      rw [show (63 : Int) = ((63 : Nat) : Int) from rfl, cut_take, List.take_of_length_le (by rw [List.length_map]; exact hl)]
    rw [ec] at s1 ⊢
    refine ⟨p, _, rfl, .inl (.inl (.inl upd_same)), fun J G W hG => ?_⟩
    generalize hH1 : upd H p (.lst (ns.map V.int)) = H1 at s1 hG
    refine for_it W (fun i σ H2 => H2 = H1 ∧ ∃ s t y, σ = [some (.ref a), some (.int s), some (.int t), y] ∧ 0 ≤ s) ⟨rfl, 0, 1, none, rfl, Int.le_refl _⟩ (fun i σ H2 _ ⟨e, _⟩ => hG _ fun b _ o h => by rw [e]; exact h) ?_ ?_
    · rintro i x σ H2 H2' hi ⟨rfl, s, t, y, rfl, h0⟩ ⟨rfl, ex⟩
      obtain ⟨z, ez, rfl⟩ := ints_get ex
      refine ⟨_, rfl, _, _, rfl, rfl, .inr ⟨by decide, by decide⟩, _, rfl, z, rfl, _, _, rfl, rfl, ?_⟩
      refine ⟨_, rfl, _, _, rfl, rfl, .inr ⟨by decide, by decide⟩, _, rfl, _, _, rfl, rfl, .inl ⟨_, rfl, _, _, rfl, rfl, by show (0 : Int) < 2147483647; decide, ?_⟩⟩
      refine ⟨rfl, _, _, _, rfl, ?_⟩
      split <;> omega
    · rintro σ H2 ⟨rfl, s, t, y, rfl, h0⟩
      refine ⟨_, rfl, _, rfl, by show 2 ≤ sizeLine; decide, fun p2 np2 => ?_⟩
      exact q p2 _ (s1.trans (same_upd np2)) (Same.free s1 np2) ⟨s, t, upd_same, h0⟩
theorem cal_law_state (T : Top K mg) (hN : base.NoSeer) (hT : P.given.tree = none) : Cal P w K mg base 1 "_law_state" (sp_law_state K) [] := ⟨⟨_, _, _, [], ok_law_state T hN hT, T.g_law_state, T.F_law_state.kp, T.b_law_state, .nil⟩⟩
def sp_law_take : Sp := fun vs H Q _ => ∃ (p : Addr) (m : Nat), vs = [.ref p, .int m] ∧ StAt H p ∧ 0 < m ∧ m < 1000000 ∧ ∀ (r : Nat) H', r < m → Off p H H' → StAt H' p → Q (.int r) H'
theorem ok_law_take (T : Top K mg) (hN : base.NoSeer) (hT : P.given.tree = none) : FnOk P w K mg base CX0 1 T.a_law_take T.d_law_take ["state", "m"] sp_law_take := by
  refine T.F_law_take.ok sc_law_take (fun vs H Q E h => ?_) (fun cdv A outer s H vs Q E hr h => ?_)
  · obtain ⟨p, m, rfl, _⟩ := h
    rfl
  · obtain ⟨p, m, rfl, ⟨s0, t0, hp, h0⟩, hm0, hm1, q⟩ := h
    have hsq : SqL K H p [V.int s0, V.int t0] := .inl (.inl hp)
    refine ⟨_, (pss_cons (ps_if (pt_cmpR op_gt (pe_ix (ixL K rfl) (pv 0) pe_int (fun _ _ => rfl)) pe_int (nomark _))
      (pss_cons (ps_set (i := 2) sc_law_take.nd rfl (by first | exact .inl rfl | exact .inr rfl) (pe_op op_mod (pe_callTy (call_int1) (by rfl) T.z_int (by decide +kernel) (pa_cons (pe_ix (ixL K rfl) (pv 0) pe_int (fun _ _ => rfl)) pa_nil)) (pv 1)))
      (pss_cons (ps_asg (pe_op op_fdiv (pe_ix (ixL K rfl) (pv 0) pe_int (fun _ _ => rfl)) (pv 1)) (pg_sub (pv 0) pe_int set_list))
      (pss_one (ps_ret (pv 2)))))
      pss_nil)
      (pss_cons (ps_asg (pe_op op_mod (pe_callTy (call_int1) (by rfl) T.z_int (by decide +kernel) (pa_cons (pe_op op_add (pe_op op_mul (pe_ix (ixL K rfl) (pv 0) pe_int (fun _ _ => rfl)) pe_int) pe_int) pa_nil)) pe_int) (pg_sub (pv 0) pe_int set_list))
      (pss_one (ps_ret (pe_op op_mod (pe_callTy (call_int1) (by rfl) T.z_int (by decide +kernel) (pa_cons (pe_op op_fdiv (pe_ix (ixL K rfl) (pv 0) pe_int (fun _ _ => rfl)) pe_int) pa_nil)) (pv 1)))))), ?_⟩
    refine ⟨_, rfl, p, _, _, _, rfl, rfl, hsq, atI_nat (j := 0) rfl, _, _, rfl, rfl, _, rfl, ?_⟩
    have fin : ∀ x : Int, ∃ r : Nat, (r : Int) = x % (m : Int) ∧ r < m := fun x => by
      have h1 := Int.emod_nonneg x (b := (m : Int)) (by omega)
      have h2 := Int.emod_lt_of_pos x (b := (m : Int)) (by omega)
      exact ⟨(x % (m : Int)).toNat, by omega, by omega⟩
    by_cases hs : 0 < s0
    · rw [decide_eq_true hs]
      refine iteT ?_
      refine ⟨_, rfl, p, _, _, _, rfl, rfl, hsq, atI_nat (j := 0) rfl, .inl ⟨_, rfl, _, rfl, _, _, rfl, rfl, by omega, ?_⟩⟩
      refine ⟨_, rfl, p, _, _, _, rfl, rfl, hsq, atI_nat (j := 0) rfl, _, rfl, _, _, rfl, rfl, ⟨by omega, by omega⟩, _, rfl, p, _, _, 0, rfl, rfl, hp, ixN_nat (n := 2) (k := 0) (by decide), ?_⟩
      obtain ⟨r, er, hr2⟩ := fin s0
      refine ⟨_, rfl, ?_⟩
      show Q (.int (s0 % (m : Int))) _
      rw [← er]
      exact q r _ hr2 Off.upd ⟨_, t0, upd_same, Int.ediv_nonneg h0 (by omega)⟩
    · rw [decide_eq_false hs]
      refine iteF ?_
      refine ⟨_, rfl, p, _, _, _, rfl, rfl, hsq, atI_nat (j := 1) rfl, _, _, rfl, rfl, .inr ⟨by decide, by decide⟩, _, _, rfl, rfl, .inl ⟨_, rfl, _, _, rfl, rfl, by show (0 : Int) < 2147483647; decide, ?_⟩⟩
      refine ⟨_, rfl, p, _, _, 1, rfl, rfl, hp, ixN_nat (n := 2) (k := 1) (by decide), ?_⟩
      refine ⟨_, rfl, p, _, _, _, rfl, rfl, .inl (.inl upd_same), atI_nat (j := 1) rfl, _, _, rfl, rfl, ⟨by decide, by decide⟩, .inl ⟨_, rfl, _, rfl, _, _, rfl, rfl, by omega, ?_⟩⟩
      obtain ⟨r, er, hr2⟩ := fin ((t0 * 48271 + 11) % 2147483647 / 7)
      show Q (.int ((t0 * 48271 + 11) % 2147483647 / 7 % (m : Int))) _
      rw [← er]
      exact q r _ hr2 Off.upd ⟨s0, _, upd_same, h0⟩
theorem cal_law_take (T : Top K mg) (hN : base.NoSeer) (hT : P.given.tree = none) : Cal P w K mg base 1 "_law_take" sp_law_take [] := ⟨⟨_, _, _, [], ok_law_take T hN hT, T.g_law_take, T.F_law_take.kp, T.b_law_take, .nil⟩⟩

/-! ### _law_rows -/

end
end K39
namespace K39
open PySem PySem.Spec PyProof.Rows L2 Gm
open C8 (Cal Met Mak pe_c pe_mt pe_mt0 pe_mk)
section
variable {P : Program} {w : World} {K : PySem.W.Frag} {mg : Str → Option Value} {base : Heap}
/-! ### _law_determinant -/
def detT (n : Nat) (f : List (List Int) → Int) (m : List (List Int)) (k : Nat) : Int := (1 - 2 * ((k : Int) % 2)) * (m.headD []).getD k 0 * f (m.tail.map fun r => r.eraseIdx k)
/-- the law's determinant, by the first row -/
def detL : Nat → List (List Int) → Int
  | 0, _ => 1
  | n + 1, m => ((List.range (n + 1)).map (detT n (detL n) m)).sum
theorem sq_tail {n B : Nat} {m : List (List Int)} (h : Sq (n + 1) B m) {k : Nat} (hk : k < n + 1) : Sq n B (m.tail.map fun r => r.eraseIdx k) := by
  refine ⟨by rw [List.length_map, List.length_tail, h.len]; rfl, fun r hr => ?_, fun r hr => ?_⟩
  · obtain ⟨r', hr', rfl⟩ := List.mem_map.mp hr
    have := h.row r' (List.mem_of_mem_tail hr')
    rw [List.length_eraseIdx_of_lt (by omega), this]
    rfl
  · obtain ⟨r', hr', rfl⟩ := List.mem_map.mp hr
    exact fun x hx => h.bits r' (List.mem_of_mem_tail hr') x (List.mem_of_mem_eraseIdx hx)
theorem sum_le {b : Nat} : ∀ {l : List Int}, (∀ x ∈ l, x.natAbs ≤ b) → l.sum.natAbs ≤ l.length * b
  | [], _ => by simp
  | x :: l, h => by
    have h1 := h x (List.mem_cons_self ..)
    have h2 := sum_le fun y hy => h y (List.mem_cons_of_mem _ hy)
    rw [List.sum_cons, List.length_cons, Nat.succ_mul]
    omega
theorem detT_le {n B c : Nat} {f : List (List Int) → Int} {m : List (List Int)} (h : Sq (n + 1) B m) {k : Nat} (hk : k < n + 1) (hf : (f (m.tail.map fun r => r.eraseIdx k)).natAbs < 2 ^ c) : (detT n f m k).natAbs ≤ 2 ^ B * 2 ^ c := by
  have h0 : ((m.headD []).getD k 0).natAbs < 2 ^ B := by
    cases m with
    | nil => exact absurd h.len (by simp)
    | cons r m =>
      have hr := h.row r (List.mem_cons_self ..)
      have hk' : k < r.length := by omega
      show (r.getD k 0).natAbs < 2 ^ B
      rw [List.getD_eq_getElem?_getD, List.getElem?_eq_getElem hk']
      exact h.bits r (List.mem_cons_self ..) _ (List.getElem_mem hk')
  have h1 : (1 - 2 * ((k : Int) % 2)).natAbs = 1 := by omega
  unfold detT
  rw [Int.natAbs_mul, Int.natAbs_mul, h1, Nat.one_mul]
  exact Nat.mul_le_mul (Nat.le_of_lt h0) (Nat.le_of_lt hf)
theorem detL_le {B : Nat} : ∀ {n : Nat} {m : List (List Int)}, n ≤ 10 → Sq n B m → (detL n m).natAbs < 2 ^ (n * (B + 8) + 1)
  | 0, m, _, _ => by
    show (1 : Int).natAbs < 2 ^ (0 * (B + 8) + 1)
    rw [Nat.zero_mul]
    decide
  | n + 1, m, hn, h => by
    have hs : (detL (n + 1) m).natAbs ≤ ((List.range (n + 1)).map (detT n (detL n) m)).length * (2 ^ B * 2 ^ (n * (B + 8) + 1)) := by
      refine sum_le fun x hx => ?_
      obtain ⟨k, hk, rfl⟩ := List.mem_map.mp hx
      have hk' := List.mem_range.mp hk
      exact detT_le h hk' (detL_le (by omega) (sq_tail h hk'))
    rw [List.length_map, List.length_range, ← Nat.pow_add] at hs
    have h2 : n + 1 < 2 ^ 8 := by have : (2 : Nat) ^ 8 = 256 := rfl; omega
    have h3 : (n + 1) * 2 ^ (B + (n * (B + 8) + 1)) < 2 ^ 8 * 2 ^ (B + (n * (B + 8) + 1)) := (Nat.mul_lt_mul_right (Nat.two_pow_pos _)).mpr h2
    rw [← Nat.pow_add] at h3
    have e : 8 + (B + (n * (B + 8) + 1)) = (n + 1) * (B + 8) + 1 := by rw [Nat.succ_mul]; omega
    rw [e] at h3
    omega

end
end K39
namespace K39
open PySem PySem.Spec PyProof.Rows L2 Gm
open C8 (Cal Met Mak pe_c pe_mt pe_mt0 pe_mk)
section
variable {P : Program} {w : World} {K : PySem.W.Frag} {mg : Str → Option Value} {base : Heap}
/-! ### the determinant up to size 4 -/
theorem row1 {r : List Int} (h : r.length = 1) : ∃ a, r = [a] := by
  match r, h with
  | [a], _ => exact ⟨a, rfl⟩
theorem row2 {r : List Int} (h : r.length = 2) : ∃ a b, r = [a, b] := by
  match r, h with
  | [a, b], _ => exact ⟨a, b, rfl⟩
theorem row3 {r : List Int} (h : r.length = 3) : ∃ a b c, r = [a, b, c] := by
  match r, h with
  | [a, b, c], _ => exact ⟨a, b, c, rfl⟩
theorem row4 {r : List Int} (h : r.length = 4) : ∃ a b c d, r = [a, b, c, d] := by
  match r, h with
  | [a, b, c, d], _ => exact ⟨a, b, c, d, rfl⟩
/-- a square matrix -/
structure Sz (n : Nat) (m : List (List Int)) : Prop where
  len : m.length = n
  row : ∀ r ∈ m, r.length = n
theorem Sq.sz {n B : Nat} {m : List (List Int)} (h : Sq n B m) : Sz n m := ⟨h.len, h.row⟩
theorem sz1 {m : List (List Int)} (h : Sz 1 m) : ∃ a, m = [[a]] := by
  obtain ⟨h1, h2⟩ := h
  match m, h1, h2 with
  | [r], _, h2 =>
    obtain ⟨a, rfl⟩ := row1 (h2 r (by simp))
    exact ⟨a, rfl⟩
theorem sz2 {m : List (List Int)} (h : Sz 2 m) : ∃ a b c d, m = [[a, b], [c, d]] := by
  obtain ⟨h1, h2⟩ := h
  match m, h1, h2 with
  | [r, t], _, h2 =>
    obtain ⟨a, b, rfl⟩ := row2 (h2 r (by simp))
    obtain ⟨c, d, rfl⟩ := row2 (h2 t (by simp))
    exact ⟨a, b, c, d, rfl⟩
theorem sz3 {m : List (List Int)} (h : Sz 3 m) : ∃ a b c d e f g k l, m = [[a, b, c], [d, e, f], [g, k, l]] := by
  obtain ⟨h1, h2⟩ := h
  match m, h1, h2 with
  | [r, t, u], _, h2 =>
    obtain ⟨a, b, c, rfl⟩ := row3 (h2 r (by simp))
    obtain ⟨d, e, f, rfl⟩ := row3 (h2 t (by simp))
    obtain ⟨g, k, l, rfl⟩ := row3 (h2 u (by simp))
    exact ⟨a, b, c, d, e, f, g, k, l, rfl⟩
theorem sz4 {m : List (List Int)} (h : Sz 4 m) : ∃ a b c d e f g k l o p q r s t u, m = [[a, b, c, d], [e, f, g, k], [l, o, p, q], [r, s, t, u]] := by
  obtain ⟨h1, h2⟩ := h
  match m, h1, h2 with
  | [r1, r2, r3, r4], _, h2 =>
    obtain ⟨a, b, c, d, rfl⟩ := row4 (h2 r1 (by simp))
    obtain ⟨e, f, g, k, rfl⟩ := row4 (h2 r2 (by simp))
    obtain ⟨l, o, p, q, rfl⟩ := row4 (h2 r3 (by simp))
    obtain ⟨r, s, t, u, rfl⟩ := row4 (h2 r4 (by simp))
    exact ⟨a, b, c, d, e, f, g, k, l, o, p, q, r, s, t, u, rfl⟩
def D2 (a b c d : Int) : Int := a * d - b * c
def D3 (a b c d e f g k l : Int) : Int := a * D2 e f k l - b * D2 d f g l + c * D2 d e g k
def D4 (a b c d e f g k l o p q r s t u : Int) : Int := a * D3 f g k o p q s t u - b * D3 e g k l p q r t u + c * D3 e f k l o q r s u - d * D3 e f g l o p r s t
theorem detL1 (a : Int) : detL 1 [[a]] = a := by
  show (1 - 2 * ((0 : Int) % 2)) * a * 1 + 0 = a
  grind
theorem detL2 (a b c d : Int) : detL 2 [[a, b], [c, d]] = D2 a b c d := by
  show (1 - 2 * ((0 : Int) % 2)) * a * detL 1 [[d]] + ((1 - 2 * ((1 : Int) % 2)) * b * detL 1 [[c]] + 0) = a * d - b * c
  rw [detL1, detL1]
  grind
theorem detL3 (a b c d e f g k l : Int) : detL 3 [[a, b, c], [d, e, f], [g, k, l]] = D3 a b c d e f g k l := by
  show (1 - 2 * ((0 : Int) % 2)) * a * detL 2 [[e, f], [k, l]] + ((1 - 2 * ((1 : Int) % 2)) * b * detL 2 [[d, f], [g, l]] + ((1 - 2 * ((2 : Int) % 2)) * c * detL 2 [[d, e], [g, k]] + 0)) = a * D2 e f k l - b * D2 d f g l + c * D2 d e g k
  rw [detL2, detL2, detL2]
  grind
theorem detL4 (a b c d e f g k l o p q r s t u : Int) : detL 4 [[a, b, c, d], [e, f, g, k], [l, o, p, q], [r, s, t, u]] = D4 a b c d e f g k l o p q r s t u := by
  show (1 - 2 * ((0 : Int) % 2)) * a * detL 3 [[f, g, k], [o, p, q], [s, t, u]] + ((1 - 2 * ((1 : Int) % 2)) * b * detL 3 [[e, g, k], [l, p, q], [r, t, u]] + ((1 - 2 * ((2 : Int) % 2)) * c * detL 3 [[e, f, k], [l, o, q], [r, s, u]] + ((1 - 2 * ((3 : Int) % 2)) * d * detL 3 [[e, f, g], [l, o, p], [r, s, t]] + 0))) = a * D3 f g k o p q s t u - b * D3 e g k l p q r t u + c * D3 e f k l o q r s u - d * D3 e f g l o p r s t
  rw [detL3, detL3, detL3, detL3]
  generalize D3 f g k o p q s t u = A
  generalize D3 e g k l p q r t u = B
  generalize D3 e f k l o q r s u = C
  generalize D3 e f g l o p r s t = D
  grind
theorem fdiv_of {x l D : Int} (hl : l ≠ 0) (h : x = l * D) : x.fdiv l = D := by
  rw [h]
  exact Int.mul_fdiv_cancel_left D hl
/-! #### the elimination -/
theorem bare1 (s l x : Int) : bare 1 s l [[x]] = s * x := by
  by_cases h : x = 0
  · subst h
    show (0 : Int) = s * 0
    rw [Int.mul_zero]
  · have e : bare 1 s l [[x]] = match (if x ≠ 0 then some 0 else none) with
      | none => 0
      | some k => bare 0 (if k % 2 = 1 then -s else s) ((([[x]] : List (List Int)).getD k []).headD 0) (((([[x]] : List (List Int)).eraseIdx k)).map fun r => clr ((([[x]] : List (List Int))).getD k []) r l) := rfl
    rw [e, if_pos h]
    rfl
theorem bare2 (s l a b c d D : Int) (hl : l ≠ 0) (h : D2 a b c d = l * D) : bare 2 s l [[a, b], [c, d]] = s * D := by
  have e : bare 2 s l [[a, b], [c, d]] = match (if a ≠ 0 then some 0 else if c ≠ 0 then some 1 else none) with
      | none => 0
      | some k => bare 1 (if k % 2 = 1 then -s else s) ((([[a, b], [c, d]] : List (List Int)).getD k []).headD 0) (((([[a, b], [c, d]] : List (List Int)).eraseIdx k)).map fun r => clr ((([[a, b], [c, d]] : List (List Int))).getD k []) r l) := rfl
  unfold D2 at h
  rw [e]
  by_cases ha : a = 0
  · rw [if_neg (fun z => z ha)]
    by_cases hc : c = 0
    · rw [if_neg (fun z => z hc)]
      have : l * D = 0 := by rw [← h, ha, hc]; grind
      rcases Int.mul_eq_zero.mp this with z | z
      · exact absurd z hl
      · rw [z, Int.mul_zero]
    · rw [if_pos hc]
      show bare 1 (-s) c [[(c * b - a * d).fdiv l]] = s * D
      rw [fdiv_of hl (show c * b - a * d = l * (-D) by grind), bare1]
      grind
  · rw [if_pos ha]
    show bare 1 s a [[(a * d - c * b).fdiv l]] = s * D
    rw [fdiv_of hl (show a * d - c * b = l * D by grind), bare1]

end
end K39
namespace K39
open PySem PySem.Spec PyProof.Rows L2 Gm
open C8 (Cal Met Mak pe_c pe_mt pe_mt0 pe_mk)
section
variable {P : Program} {w : World} {K : PySem.W.Frag} {mg : Str → Option Value} {base : Heap}
theorem chio3 (a b c d e f g k x : Int) : D2 (a * e - d * b) (a * f - d * c) (a * k - g * b) (a * x - g * c) = a * D3 a b c d e f g k x := by
  unfold D3 D2
  grind
theorem D3_swap1 (a b c d e f g k x : Int) : D3 d e f a b c g k x = -D3 a b c d e f g k x := by
  unfold D3 D2
  grind
theorem D3_swap2 (a b c d e f g k x : Int) : D3 g k x a b c d e f = D3 a b c d e f g k x := by
  unfold D3 D2
  grind
theorem D3_zero (b c e f k x : Int) : D3 0 b c 0 e f 0 k x = 0 := by
  unfold D3 D2
  grind
theorem cancel2 {l x y : Int} (hl : l ≠ 0) (h : l * l * x = l * l * y) : x = y :=
  Int.eq_of_mul_eq_mul_left (Int.mul_ne_zero hl hl) h
theorem can3 {l a D Z p1 p2 p3 p4 : Int} (hl : l ≠ 0) (t : D2 (l * p1) (l * p2) (l * p3) (l * p4) = a * Z) (hz : Z = l * l * D) : D2 p1 p2 p3 p4 = a * D := by
  refine cancel2 hl ?_
  rw [hz] at t
  unfold D2 at t ⊢
  grind
theorem bare3 (s l a b c d e f g k x D q1 q2 q3 q4 q5 q6 : Int) (hl : l ≠ 0) (h1 : D2 a b d e = l * q1) (h2 : D2 a c d f = l * q2) (h3 : D2 a b g k = l * q3) (h4 : D2 a c g x = l * q4) (h5 : D2 d e g k = l * q5) (h6 : D2 d f g x = l * q6) (h : D3 a b c d e f g k x = l * l * D) :
    bare 3 s l [[a, b, c], [d, e, f], [g, k, x]] = s * D := by
  have eb : bare 3 s l [[a, b, c], [d, e, f], [g, k, x]] = match (if a ≠ 0 then some 0 else if d ≠ 0 then some 1 else if g ≠ 0 then some 2 else none) with
      | none => 0
      | some k' => bare 2 (if k' % 2 = 1 then -s else s) ((([[a, b, c], [d, e, f], [g, k, x]] : List (List Int)).getD k' []).headD 0) (((([[a, b, c], [d, e, f], [g, k, x]] : List (List Int)).eraseIdx k')).map fun r => clr ((([[a, b, c], [d, e, f], [g, k, x]] : List (List Int))).getD k' []) r l) := rfl
  rw [eb]
  unfold D2 at h1 h2 h3 h4 h5 h6
  by_cases ha : a = 0
  · rw [if_neg (fun z => z ha)]
    by_cases hd : d = 0
    · rw [if_neg (fun z => z hd)]
      by_cases hg : g = 0
      · rw [if_neg (fun z => z hg)]
        rw [ha, hd, hg, D3_zero] at h
        have z : D = 0 := cancel2 hl (by rw [← h, Int.mul_zero])
        rw [z, Int.mul_zero]
      · rw [if_pos hg]
        show bare 2 s g [[(g * b - a * k).fdiv l, (g * c - a * x).fdiv l], [(g * e - d * k).fdiv l, (g * f - d * x).fdiv l]] = s * D
        have f1 : g * b - a * k = l * (-q3) := by grind
        have f2 : g * c - a * x = l * (-q4) := by grind
        have f3 : g * e - d * k = l * (-q5) := by grind
        have f4 : g * f - d * x = l * (-q6) := by grind
        rw [fdiv_of hl f1, fdiv_of hl f2, fdiv_of hl f3, fdiv_of hl f4]
        refine bare2 s g _ _ _ _ D hg (can3 hl (Z := l * l * D) ?_ rfl)
        have t := chio3 g k x a b c d e f
        rw [D3_swap2, h, f1, f2, f3, f4] at t
        exact t
    · rw [if_pos hd]
      show bare 2 (-s) d [[(d * b - a * e).fdiv l, (d * c - a * f).fdiv l], [(d * k - g * e).fdiv l, (d * x - g * f).fdiv l]] = s * D
      have f1 : d * b - a * e = l * (-q1) := by grind
      have f2 : d * c - a * f = l * (-q2) := by grind
      have f3 : d * k - g * e = l * q5 := by grind
      have f4 : d * x - g * f = l * q6 := by grind
      rw [fdiv_of hl f1, fdiv_of hl f2, fdiv_of hl f3, fdiv_of hl f4]
      rw [show s * D = -s * (-D) by grind]
      refine bare2 (-s) d _ _ _ _ (-D) hd (can3 hl (Z := -(l * l * D)) ?_ (by rw [Int.mul_neg]))
      have t := chio3 d e f a b c g k x
      rw [D3_swap1, h, f1, f2, f3, f4] at t
      exact t
  · rw [if_pos ha]
    show bare 2 s a [[(a * e - d * b).fdiv l, (a * f - d * c).fdiv l], [(a * k - g * b).fdiv l, (a * x - g * c).fdiv l]] = s * D
    have f1 : a * e - d * b = l * q1 := by grind
    have f2 : a * f - d * c = l * q2 := by grind
    have f3 : a * k - g * b = l * q3 := by grind
    have f4 : a * x - g * c = l * q4 := by grind
    rw [fdiv_of hl f1, fdiv_of hl f2, fdiv_of hl f3, fdiv_of hl f4]
    refine bare2 s a _ _ _ _ D ha (can3 hl (Z := l * l * D) ?_ rfl)
    have t := chio3 a b c d e f g k x
    rw [h, f1, f2, f3, f4] at t
    exact t
/-! size 4 -/
theorem chio4 (t0 t1 t2 t3 u0 u1 u2 u3 v0 v1 v2 v3 w0 w1 w2 w3 : Int) :
    D3 (t0 * u1 - u0 * t1) (t0 * u2 - u0 * t2) (t0 * u3 - u0 * t3) (t0 * v1 - v0 * t1) (t0 * v2 - v0 * t2) (t0 * v3 - v0 * t3) (t0 * w1 - w0 * t1) (t0 * w2 - w0 * t2) (t0 * w3 - w0 * t3) =
      t0 * t0 * D4 t0 t1 t2 t3 u0 u1 u2 u3 v0 v1 v2 v3 w0 w1 w2 w3 := by
  unfold D4 D3 D2
  grind
theorem D4_at1 (t0 t1 t2 t3 u0 u1 u2 u3 v0 v1 v2 v3 w0 w1 w2 w3 : Int) : D4 u0 u1 u2 u3 t0 t1 t2 t3 v0 v1 v2 v3 w0 w1 w2 w3 = -D4 t0 t1 t2 t3 u0 u1 u2 u3 v0 v1 v2 v3 w0 w1 w2 w3 := by
  unfold D4 D3 D2
  grind
theorem D4_at2 (t0 t1 t2 t3 u0 u1 u2 u3 v0 v1 v2 v3 w0 w1 w2 w3 : Int) : D4 v0 v1 v2 v3 t0 t1 t2 t3 u0 u1 u2 u3 w0 w1 w2 w3 = D4 t0 t1 t2 t3 u0 u1 u2 u3 v0 v1 v2 v3 w0 w1 w2 w3 := by
  unfold D4 D3 D2
  grind
theorem D4_at3 (t0 t1 t2 t3 u0 u1 u2 u3 v0 v1 v2 v3 w0 w1 w2 w3 : Int) : D4 w0 w1 w2 w3 t0 t1 t2 t3 u0 u1 u2 u3 v0 v1 v2 v3 = -D4 t0 t1 t2 t3 u0 u1 u2 u3 v0 v1 v2 v3 w0 w1 w2 w3 := by
  unfold D4 D3 D2
  grind
theorem D4_zero (t1 t2 t3 u1 u2 u3 v1 v2 v3 w1 w2 w3 : Int) : D4 0 t1 t2 t3 0 u1 u2 u3 0 v1 v2 v3 0 w1 w2 w3 = 0 := by
  unfold D4 D3 D2
  grind
/-- after one step, with the pivot row t -/
theorem bare4p (s t0 t1 t2 t3 u0 u1 u2 u3 v0 v1 v2 v3 w0 w1 w2 w3 D : Int) (h0 : t0 ≠ 0) (h : D4 t0 t1 t2 t3 u0 u1 u2 u3 v0 v1 v2 v3 w0 w1 w2 w3 = D) :
    bare 3 s t0 [[(t0 * u1 - u0 * t1).fdiv 1, (t0 * u2 - u0 * t2).fdiv 1, (t0 * u3 - u0 * t3).fdiv 1], [(t0 * v1 - v0 * t1).fdiv 1, (t0 * v2 - v0 * t2).fdiv 1, (t0 * v3 - v0 * t3).fdiv 1], [(t0 * w1 - w0 * t1).fdiv 1, (t0 * w2 - w0 * t2).fdiv 1, (t0 * w3 - w0 * t3).fdiv 1]] = s * D := by
  have f : ∀ x : Int, x.fdiv 1 = x := fun x => fdiv_of (by decide) (by rw [Int.one_mul])
  simp only [f]
  refine bare3 s t0 _ _ _ _ _ _ _ _ _ D (D3 t0 t1 t2 u0 u1 u2 v0 v1 v2) (D3 t0 t1 t3 u0 u1 u3 v0 v1 v3) (D3 t0 t1 t2 u0 u1 u2 w0 w1 w2) (D3 t0 t1 t3 u0 u1 u3 w0 w1 w3) (D3 t0 t1 t2 v0 v1 v2 w0 w1 w2) (D3 t0 t1 t3 v0 v1 v3 w0 w1 w3) h0 ?_ ?_ ?_ ?_ ?_ ?_ ?_
  · exact chio3 ..
  · exact chio3 ..
  · exact chio3 ..
  · exact chio3 ..
  · exact chio3 ..
  · exact chio3 ..
  · rw [chio4, h]
theorem bare4 (s t0 t1 t2 t3 u0 u1 u2 u3 v0 v1 v2 v3 w0 w1 w2 w3 : Int) :
    bare 4 s 1 [[t0, t1, t2, t3], [u0, u1, u2, u3], [v0, v1, v2, v3], [w0, w1, w2, w3]] = s * D4 t0 t1 t2 t3 u0 u1 u2 u3 v0 v1 v2 v3 w0 w1 w2 w3 := by
  have eb : bare 4 s 1 [[t0, t1, t2, t3], [u0, u1, u2, u3], [v0, v1, v2, v3], [w0, w1, w2, w3]] = match (if t0 ≠ 0 then some 0 else if u0 ≠ 0 then some 1 else if v0 ≠ 0 then some 2 else if w0 ≠ 0 then some 3 else none) with
      | none => 0
      | some k' => bare 3 (if k' % 2 = 1 then -s else s) ((([[t0, t1, t2, t3], [u0, u1, u2, u3], [v0, v1, v2, v3], [w0, w1, w2, w3]] : List (List Int)).getD k' []).headD 0) (((([[t0, t1, t2, t3], [u0, u1, u2, u3], [v0, v1, v2, v3], [w0, w1, w2, w3]] : List (List Int)).eraseIdx k')).map fun r => clr ((([[t0, t1, t2, t3], [u0, u1, u2, u3], [v0, v1, v2, v3], [w0, w1, w2, w3]] : List (List Int))).getD k' []) r 1) := rfl
  rw [eb]
  by_cases ht : t0 = 0
  · rw [if_neg (fun z => z ht)]
    by_cases hu : u0 = 0
    · rw [if_neg (fun z => z hu)]
      by_cases hv : v0 = 0
      · rw [if_neg (fun z => z hv)]
        by_cases hw : w0 = 0
        · rw [if_neg (fun z => z hw), ht, hu, hv, hw, D4_zero, Int.mul_zero]
        · rw [if_pos hw]
          refine (bare4p (-s) w0 w1 w2 w3 t0 t1 t2 t3 u0 u1 u2 u3 v0 v1 v2 v3 _ hw rfl).trans ?_
          rw [D4_at3]
          grind
      · rw [if_pos hv]
        refine (bare4p s v0 v1 v2 v3 t0 t1 t2 t3 u0 u1 u2 u3 w0 w1 w2 w3 _ hv rfl).trans ?_
        rw [D4_at2]
    · rw [if_pos hu]
      refine (bare4p (-s) u0 u1 u2 u3 t0 t1 t2 t3 v0 v1 v2 v3 w0 w1 w2 w3 _ hu rfl).trans ?_
      rw [D4_at1]
      grind
  · rw [if_pos ht]
    exact bare4p s t0 t1 t2 t3 u0 u1 u2 u3 v0 v1 v2 v3 w0 w1 w2 w3 _ ht rfl
theorem bare3' (s a b c d e f g k x : Int) : bare 3 s 1 [[a, b, c], [d, e, f], [g, k, x]] = s * D3 a b c d e f g k x :=
  bare3 s 1 a b c d e f g k x (D3 a b c d e f g k x) _ _ _ _ _ _ (by decide) (Int.one_mul _).symm (Int.one_mul _).symm (Int.one_mul _).symm (Int.one_mul _).symm (Int.one_mul _).symm (Int.one_mul _).symm (by rw [Int.one_mul, Int.one_mul])
/-- the elimination gives the law's determinant -/
theorem bare_det {n : Nat} {m : List (List Int)} (hn : n ≤ 4) (h : Sz n m) : bare n 1 1 m = detL n m := by
  match n, hn, h with
  | 0, _, _ => exact Int.one_mul 1
  | 1, _, h =>
    obtain ⟨a, rfl⟩ := sz1 h
    rw [bare1, detL1, Int.one_mul]
  | 2, _, h =>
    obtain ⟨a, b, c, d, rfl⟩ := sz2 h
    rw [bare2 1 1 a b c d (D2 a b c d) (by decide) (Int.one_mul _).symm, detL2, Int.one_mul]
  | 3, _, h =>
    obtain ⟨a, b, c, d, e, f, g, k, x, rfl⟩ := sz3 h
    rw [bare3', detL3, Int.one_mul]
  | 4, _, h =>
    obtain ⟨a, b, c, d, e, f, g, k, l, o, p, q, r, s, t, u, rfl⟩ := sz4 h
    rw [bare4, detL4, Int.one_mul]

end
end K39
namespace K39
open PySem PySem.Spec PyProof.Rows L2 Gm
open C8 (Cal Met Mak pe_c pe_mt pe_mt0 pe_mk)
section
variable {P : Program} {w : World} {K : PySem.W.Frag} {mg : Str → Option Value} {base : Heap}
/-! ### products, transposed, adjugate -/
def sgn (k : Nat) : Int := 1 - 2 * ((k : Int) % 2)
/-- the law's adjugate, by minors -/
def dueM (n : Nat) (m : List (List Int)) : List (List Int) := (List.range n).map fun i => (List.range n).map fun k => sgn (i + k) * detL (n - 1) (cutM m k i)
/-- d times the unit matrix -/
def scalM (n : Nat) (d : Int) : List (List Int) := (List.range n).map fun i => (List.range n).map fun k => d * (if i = k then 1 else 0)
theorem sgn_even {k : Nat} (h : k % 2 = 0) : sgn k = 1 := by
  unfold sgn
  omega
theorem sgn_odd {k : Nat} (h : k % 2 = 1) : sgn k = -1 := by
  unfold sgn
  omega
theorem mul_eq2 (a00 a01 a10 a11 b00 b01 b10 b11 : Int) : mulM [[a00, a01], [a10, a11]] [[b00, b01], [b10, b11]] 2 = [[a00 * b00 + (a01 * b10 + 0), a00 * b01 + (a01 * b11 + 0)], [a10 * b00 + (a11 * b10 + 0), a10 * b01 + (a11 * b11 + 0)]] := rfl
set_option maxHeartbeats 40000000 in
theorem mulD2 (a00 a01 a10 a11 b00 b01 b10 b11 : Int) : D2 (a00 * b00 + (a01 * b10 + 0)) (a00 * b01 + (a01 * b11 + 0)) (a10 * b00 + (a11 * b10 + 0)) (a10 * b01 + (a11 * b11 + 0)) = D2 a00 a01 a10 a11 * D2 b00 b01 b10 b11 := by
  unfold D2
  grind
theorem tr_eq2 (a00 a01 a10 a11 : Int) : transp [[a00, a01], [a10, a11]] 2 = [[a00, a10], [a01, a11]] := rfl
theorem trD2 (a00 a01 a10 a11 : Int) : D2 a00 a10 a01 a11 = D2 a00 a01 a10 a11 := by
  unfold D2
  grind
theorem due_eq2 (a00 a01 a10 a11 : Int) : dueM 2 [[a00, a01], [a10, a11]] = [[a11, -a01], [-a10, a00]] := by
  show [[sgn (0 + 0) * detL 1 [[a11]], sgn (0 + 1) * detL 1 [[a01]]], [sgn (1 + 0) * detL 1 [[a10]], sgn (1 + 1) * detL 1 [[a00]]]] = _
  simp only [detL1]
  simp only [sgn_even (show (0 + 0) % 2 = 0 from rfl), sgn_odd (show (0 + 1) % 2 = 1 from rfl), sgn_odd (show (1 + 0) % 2 = 1 from rfl), sgn_even (show (1 + 1) % 2 = 0 from rfl), Int.one_mul, Int.neg_mul]
theorem adj2l00 (a00 a01 a10 a11 : Int) : a00 * a11 + (a01 * (-a10) + 0) = D2 a00 a01 a10 a11 * 1 := by
  unfold D2
  grind
theorem adj2l01 (a00 a01 a10 a11 : Int) : a00 * (-a01) + (a01 * a00 + 0) = D2 a00 a01 a10 a11 * 0 := by
  unfold D2
  grind
theorem adj2l10 (a00 a01 a10 a11 : Int) : a10 * a11 + (a11 * (-a10) + 0) = D2 a00 a01 a10 a11 * 0 := by
  unfold D2
  grind
theorem adj2l11 (a00 a01 a10 a11 : Int) : a10 * (-a01) + (a11 * a00 + 0) = D2 a00 a01 a10 a11 * 1 := by
  unfold D2
  grind
theorem adj2r00 (a00 a01 a10 a11 : Int) : a11 * a00 + ((-a01) * a10 + 0) = D2 a00 a01 a10 a11 * 1 := by
  unfold D2
  grind
theorem adj2r01 (a00 a01 a10 a11 : Int) : a11 * a01 + ((-a01) * a11 + 0) = D2 a00 a01 a10 a11 * 0 := by
  unfold D2
  grind
theorem adj2r10 (a00 a01 a10 a11 : Int) : (-a10) * a00 + (a00 * a10 + 0) = D2 a00 a01 a10 a11 * 0 := by
  unfold D2
  grind
theorem adj2r11 (a00 a01 a10 a11 : Int) : (-a10) * a01 + (a00 * a11 + 0) = D2 a00 a01 a10 a11 * 1 := by
  unfold D2
  grind
theorem scal_eq2 (d : Int) : scalM 2 d = [[d * 1, d * 0], [d * 0, d * 1]] := rfl
theorem adjM2l (a00 a01 a10 a11 : Int) : mulM [[a00, a01], [a10, a11]] [[a11, -a01], [-a10, a00]] 2 = scalM 2 (D2 a00 a01 a10 a11) := by
  show [[a00 * a11 + (a01 * (-a10) + 0), a00 * (-a01) + (a01 * a00 + 0)], [a10 * a11 + (a11 * (-a10) + 0), a10 * (-a01) + (a11 * a00 + 0)]] = _
  rw [scal_eq2]
  rw [adj2l00 a00 a01 a10 a11, adj2l01 a00 a01 a10 a11, adj2l10 a00 a01 a10 a11, adj2l11 a00 a01 a10 a11]
theorem adjM2r (a00 a01 a10 a11 : Int) : mulM [[a11, -a01], [-a10, a00]] [[a00, a01], [a10, a11]] 2 = scalM 2 (D2 a00 a01 a10 a11) := by
  show [[a11 * a00 + ((-a01) * a10 + 0), a11 * a01 + ((-a01) * a11 + 0)], [(-a10) * a00 + (a00 * a10 + 0), (-a10) * a01 + (a00 * a11 + 0)]] = _
  rw [scal_eq2]
  rw [adj2r00 a00 a01 a10 a11, adj2r01 a00 a01 a10 a11, adj2r10 a00 a01 a10 a11, adj2r11 a00 a01 a10 a11]
theorem mul_eq3 (a00 a01 a02 a10 a11 a12 a20 a21 a22 b00 b01 b02 b10 b11 b12 b20 b21 b22 : Int) : mulM [[a00, a01, a02], [a10, a11, a12], [a20, a21, a22]] [[b00, b01, b02], [b10, b11, b12], [b20, b21, b22]] 3 = [[a00 * b00 + (a01 * b10 + (a02 * b20 + 0)), a00 * b01 + (a01 * b11 + (a02 * b21 + 0)), a00 * b02 + (a01 * b12 + (a02 * b22 + 0))], [a10 * b00 + (a11 * b10 + (a12 * b20 + 0)), a10 * b01 + (a11 * b11 + (a12 * b21 + 0)), a10 * b02 + (a11 * b12 + (a12 * b22 + 0))], [a20 * b00 + (a21 * b10 + (a22 * b20 + 0)), a20 * b01 + (a21 * b11 + (a22 * b21 + 0)), a20 * b02 + (a21 * b12 + (a22 * b22 + 0))]] := rfl
set_option maxHeartbeats 40000000 in
theorem mulD3 (a00 a01 a02 a10 a11 a12 a20 a21 a22 b00 b01 b02 b10 b11 b12 b20 b21 b22 : Int) : D3 (a00 * b00 + (a01 * b10 + (a02 * b20 + 0))) (a00 * b01 + (a01 * b11 + (a02 * b21 + 0))) (a00 * b02 + (a01 * b12 + (a02 * b22 + 0))) (a10 * b00 + (a11 * b10 + (a12 * b20 + 0))) (a10 * b01 + (a11 * b11 + (a12 * b21 + 0))) (a10 * b02 + (a11 * b12 + (a12 * b22 + 0))) (a20 * b00 + (a21 * b10 + (a22 * b20 + 0))) (a20 * b01 + (a21 * b11 + (a22 * b21 + 0))) (a20 * b02 + (a21 * b12 + (a22 * b22 + 0))) = D3 a00 a01 a02 a10 a11 a12 a20 a21 a22 * D3 b00 b01 b02 b10 b11 b12 b20 b21 b22 := by
  unfold D3 D2
  grind
theorem tr_eq3 (a00 a01 a02 a10 a11 a12 a20 a21 a22 : Int) : transp [[a00, a01, a02], [a10, a11, a12], [a20, a21, a22]] 3 = [[a00, a10, a20], [a01, a11, a21], [a02, a12, a22]] := rfl
theorem trD3 (a00 a01 a02 a10 a11 a12 a20 a21 a22 : Int) : D3 a00 a10 a20 a01 a11 a21 a02 a12 a22 = D3 a00 a01 a02 a10 a11 a12 a20 a21 a22 := by
  unfold D3 D2
  grind
theorem due_eq3 (a00 a01 a02 a10 a11 a12 a20 a21 a22 : Int) : dueM 3 [[a00, a01, a02], [a10, a11, a12], [a20, a21, a22]] = [[D2 a11 a12 a21 a22, -D2 a01 a02 a21 a22, D2 a01 a02 a11 a12], [-D2 a10 a12 a20 a22, D2 a00 a02 a20 a22, -D2 a00 a02 a10 a12], [D2 a10 a11 a20 a21, -D2 a00 a01 a20 a21, D2 a00 a01 a10 a11]] := by
  show [[sgn (0 + 0) * detL 2 [[a11, a12], [a21, a22]], sgn (0 + 1) * detL 2 [[a01, a02], [a21, a22]], sgn (0 + 2) * detL 2 [[a01, a02], [a11, a12]]], [sgn (1 + 0) * detL 2 [[a10, a12], [a20, a22]], sgn (1 + 1) * detL 2 [[a00, a02], [a20, a22]], sgn (1 + 2) * detL 2 [[a00, a02], [a10, a12]]], [sgn (2 + 0) * detL 2 [[a10, a11], [a20, a21]], sgn (2 + 1) * detL 2 [[a00, a01], [a20, a21]], sgn (2 + 2) * detL 2 [[a00, a01], [a10, a11]]]] = _
  simp only [detL2]
  simp only [sgn_even (show (0 + 0) % 2 = 0 from rfl), sgn_odd (show (0 + 1) % 2 = 1 from rfl), sgn_even (show (0 + 2) % 2 = 0 from rfl), sgn_odd (show (1 + 0) % 2 = 1 from rfl), sgn_even (show (1 + 1) % 2 = 0 from rfl), sgn_odd (show (1 + 2) % 2 = 1 from rfl), sgn_even (show (2 + 0) % 2 = 0 from rfl), sgn_odd (show (2 + 1) % 2 = 1 from rfl), sgn_even (show (2 + 2) % 2 = 0 from rfl), Int.one_mul, Int.neg_mul]
theorem adj3l00 (a00 a01 a02 a10 a11 a12 a20 a21 a22 : Int) : a00 * (D2 a11 a12 a21 a22) + (a01 * (-D2 a10 a12 a20 a22) + (a02 * (D2 a10 a11 a20 a21) + 0)) = D3 a00 a01 a02 a10 a11 a12 a20 a21 a22 * 1 := by
  unfold D3 D2
  grind
theorem adj3l01 (a00 a01 a02 a10 a11 a12 a20 a21 a22 : Int) : a00 * (-D2 a01 a02 a21 a22) + (a01 * (D2 a00 a02 a20 a22) + (a02 * (-D2 a00 a01 a20 a21) + 0)) = D3 a00 a01 a02 a10 a11 a12 a20 a21 a22 * 0 := by
  unfold D3 D2
  grind
theorem adj3l02 (a00 a01 a02 a10 a11 a12 a20 a21 a22 : Int) : a00 * (D2 a01 a02 a11 a12) + (a01 * (-D2 a00 a02 a10 a12) + (a02 * (D2 a00 a01 a10 a11) + 0)) = D3 a00 a01 a02 a10 a11 a12 a20 a21 a22 * 0 := by
  unfold D3 D2
  grind
theorem adj3l10 (a00 a01 a02 a10 a11 a12 a20 a21 a22 : Int) : a10 * (D2 a11 a12 a21 a22) + (a11 * (-D2 a10 a12 a20 a22) + (a12 * (D2 a10 a11 a20 a21) + 0)) = D3 a00 a01 a02 a10 a11 a12 a20 a21 a22 * 0 := by
  unfold D3 D2
  grind
theorem adj3l11 (a00 a01 a02 a10 a11 a12 a20 a21 a22 : Int) : a10 * (-D2 a01 a02 a21 a22) + (a11 * (D2 a00 a02 a20 a22) + (a12 * (-D2 a00 a01 a20 a21) + 0)) = D3 a00 a01 a02 a10 a11 a12 a20 a21 a22 * 1 := by
  unfold D3 D2
  grind
theorem adj3l12 (a00 a01 a02 a10 a11 a12 a20 a21 a22 : Int) : a10 * (D2 a01 a02 a11 a12) + (a11 * (-D2 a00 a02 a10 a12) + (a12 * (D2 a00 a01 a10 a11) + 0)) = D3 a00 a01 a02 a10 a11 a12 a20 a21 a22 * 0 := by
  unfold D3 D2
  grind
theorem adj3l20 (a00 a01 a02 a10 a11 a12 a20 a21 a22 : Int) : a20 * (D2 a11 a12 a21 a22) + (a21 * (-D2 a10 a12 a20 a22) + (a22 * (D2 a10 a11 a20 a21) + 0)) = D3 a00 a01 a02 a10 a11 a12 a20 a21 a22 * 0 := by
  unfold D3 D2
  grind
theorem adj3l21 (a00 a01 a02 a10 a11 a12 a20 a21 a22 : Int) : a20 * (-D2 a01 a02 a21 a22) + (a21 * (D2 a00 a02 a20 a22) + (a22 * (-D2 a00 a01 a20 a21) + 0)) = D3 a00 a01 a02 a10 a11 a12 a20 a21 a22 * 0 := by
  unfold D3 D2
  grind
theorem adj3l22 (a00 a01 a02 a10 a11 a12 a20 a21 a22 : Int) : a20 * (D2 a01 a02 a11 a12) + (a21 * (-D2 a00 a02 a10 a12) + (a22 * (D2 a00 a01 a10 a11) + 0)) = D3 a00 a01 a02 a10 a11 a12 a20 a21 a22 * 1 := by
  unfold D3 D2
  grind
theorem adj3r00 (a00 a01 a02 a10 a11 a12 a20 a21 a22 : Int) : (D2 a11 a12 a21 a22) * a00 + ((-D2 a01 a02 a21 a22) * a10 + ((D2 a01 a02 a11 a12) * a20 + 0)) = D3 a00 a01 a02 a10 a11 a12 a20 a21 a22 * 1 := by
  unfold D3 D2
  grind
theorem adj3r01 (a00 a01 a02 a10 a11 a12 a20 a21 a22 : Int) : (D2 a11 a12 a21 a22) * a01 + ((-D2 a01 a02 a21 a22) * a11 + ((D2 a01 a02 a11 a12) * a21 + 0)) = D3 a00 a01 a02 a10 a11 a12 a20 a21 a22 * 0 := by
  unfold D3 D2
  grind
theorem adj3r02 (a00 a01 a02 a10 a11 a12 a20 a21 a22 : Int) : (D2 a11 a12 a21 a22) * a02 + ((-D2 a01 a02 a21 a22) * a12 + ((D2 a01 a02 a11 a12) * a22 + 0)) = D3 a00 a01 a02 a10 a11 a12 a20 a21 a22 * 0 := by
  unfold D3 D2
  grind
theorem adj3r10 (a00 a01 a02 a10 a11 a12 a20 a21 a22 : Int) : (-D2 a10 a12 a20 a22) * a00 + ((D2 a00 a02 a20 a22) * a10 + ((-D2 a00 a02 a10 a12) * a20 + 0)) = D3 a00 a01 a02 a10 a11 a12 a20 a21 a22 * 0 := by
  unfold D3 D2
  grind
theorem adj3r11 (a00 a01 a02 a10 a11 a12 a20 a21 a22 : Int) : (-D2 a10 a12 a20 a22) * a01 + ((D2 a00 a02 a20 a22) * a11 + ((-D2 a00 a02 a10 a12) * a21 + 0)) = D3 a00 a01 a02 a10 a11 a12 a20 a21 a22 * 1 := by
  unfold D3 D2
  grind
theorem adj3r12 (a00 a01 a02 a10 a11 a12 a20 a21 a22 : Int) : (-D2 a10 a12 a20 a22) * a02 + ((D2 a00 a02 a20 a22) * a12 + ((-D2 a00 a02 a10 a12) * a22 + 0)) = D3 a00 a01 a02 a10 a11 a12 a20 a21 a22 * 0 := by
  unfold D3 D2
  grind
theorem adj3r20 (a00 a01 a02 a10 a11 a12 a20 a21 a22 : Int) : (D2 a10 a11 a20 a21) * a00 + ((-D2 a00 a01 a20 a21) * a10 + ((D2 a00 a01 a10 a11) * a20 + 0)) = D3 a00 a01 a02 a10 a11 a12 a20 a21 a22 * 0 := by
  unfold D3 D2
  grind
theorem adj3r21 (a00 a01 a02 a10 a11 a12 a20 a21 a22 : Int) : (D2 a10 a11 a20 a21) * a01 + ((-D2 a00 a01 a20 a21) * a11 + ((D2 a00 a01 a10 a11) * a21 + 0)) = D3 a00 a01 a02 a10 a11 a12 a20 a21 a22 * 0 := by
  unfold D3 D2
  grind
theorem adj3r22 (a00 a01 a02 a10 a11 a12 a20 a21 a22 : Int) : (D2 a10 a11 a20 a21) * a02 + ((-D2 a00 a01 a20 a21) * a12 + ((D2 a00 a01 a10 a11) * a22 + 0)) = D3 a00 a01 a02 a10 a11 a12 a20 a21 a22 * 1 := by
  unfold D3 D2
  grind
theorem scal_eq3 (d : Int) : scalM 3 d = [[d * 1, d * 0, d * 0], [d * 0, d * 1, d * 0], [d * 0, d * 0, d * 1]] := rfl
theorem adjM3l (a00 a01 a02 a10 a11 a12 a20 a21 a22 : Int) : mulM [[a00, a01, a02], [a10, a11, a12], [a20, a21, a22]] [[D2 a11 a12 a21 a22, -D2 a01 a02 a21 a22, D2 a01 a02 a11 a12], [-D2 a10 a12 a20 a22, D2 a00 a02 a20 a22, -D2 a00 a02 a10 a12], [D2 a10 a11 a20 a21, -D2 a00 a01 a20 a21, D2 a00 a01 a10 a11]] 3 = scalM 3 (D3 a00 a01 a02 a10 a11 a12 a20 a21 a22) := by
  show [[a00 * (D2 a11 a12 a21 a22) + (a01 * (-D2 a10 a12 a20 a22) + (a02 * (D2 a10 a11 a20 a21) + 0)), a00 * (-D2 a01 a02 a21 a22) + (a01 * (D2 a00 a02 a20 a22) + (a02 * (-D2 a00 a01 a20 a21) + 0)), a00 * (D2 a01 a02 a11 a12) + (a01 * (-D2 a00 a02 a10 a12) + (a02 * (D2 a00 a01 a10 a11) + 0))], [a10 * (D2 a11 a12 a21 a22) + (a11 * (-D2 a10 a12 a20 a22) + (a12 * (D2 a10 a11 a20 a21) + 0)), a10 * (-D2 a01 a02 a21 a22) + (a11 * (D2 a00 a02 a20 a22) + (a12 * (-D2 a00 a01 a20 a21) + 0)), a10 * (D2 a01 a02 a11 a12) + (a11 * (-D2 a00 a02 a10 a12) + (a12 * (D2 a00 a01 a10 a11) + 0))], [a20 * (D2 a11 a12 a21 a22) + (a21 * (-D2 a10 a12 a20 a22) + (a22 * (D2 a10 a11 a20 a21) + 0)), a20 * (-D2 a01 a02 a21 a22) + (a21 * (D2 a00 a02 a20 a22) + (a22 * (-D2 a00 a01 a20 a21) + 0)), a20 * (D2 a01 a02 a11 a12) + (a21 * (-D2 a00 a02 a10 a12) + (a22 * (D2 a00 a01 a10 a11) + 0))]] = _
  rw [scal_eq3]
  rw [adj3l00 a00 a01 a02 a10 a11 a12 a20 a21 a22, adj3l01 a00 a01 a02 a10 a11 a12 a20 a21 a22, adj3l02 a00 a01 a02 a10 a11 a12 a20 a21 a22, adj3l10 a00 a01 a02 a10 a11 a12 a20 a21 a22, adj3l11 a00 a01 a02 a10 a11 a12 a20 a21 a22, adj3l12 a00 a01 a02 a10 a11 a12 a20 a21 a22, adj3l20 a00 a01 a02 a10 a11 a12 a20 a21 a22, adj3l21 a00 a01 a02 a10 a11 a12 a20 a21 a22, adj3l22 a00 a01 a02 a10 a11 a12 a20 a21 a22]
theorem adjM3r (a00 a01 a02 a10 a11 a12 a20 a21 a22 : Int) : mulM [[D2 a11 a12 a21 a22, -D2 a01 a02 a21 a22, D2 a01 a02 a11 a12], [-D2 a10 a12 a20 a22, D2 a00 a02 a20 a22, -D2 a00 a02 a10 a12], [D2 a10 a11 a20 a21, -D2 a00 a01 a20 a21, D2 a00 a01 a10 a11]] [[a00, a01, a02], [a10, a11, a12], [a20, a21, a22]] 3 = scalM 3 (D3 a00 a01 a02 a10 a11 a12 a20 a21 a22) := by
  show [[(D2 a11 a12 a21 a22) * a00 + ((-D2 a01 a02 a21 a22) * a10 + ((D2 a01 a02 a11 a12) * a20 + 0)), (D2 a11 a12 a21 a22) * a01 + ((-D2 a01 a02 a21 a22) * a11 + ((D2 a01 a02 a11 a12) * a21 + 0)), (D2 a11 a12 a21 a22) * a02 + ((-D2 a01 a02 a21 a22) * a12 + ((D2 a01 a02 a11 a12) * a22 + 0))], [(-D2 a10 a12 a20 a22) * a00 + ((D2 a00 a02 a20 a22) * a10 + ((-D2 a00 a02 a10 a12) * a20 + 0)), (-D2 a10 a12 a20 a22) * a01 + ((D2 a00 a02 a20 a22) * a11 + ((-D2 a00 a02 a10 a12) * a21 + 0)), (-D2 a10 a12 a20 a22) * a02 + ((D2 a00 a02 a20 a22) * a12 + ((-D2 a00 a02 a10 a12) * a22 + 0))], [(D2 a10 a11 a20 a21) * a00 + ((-D2 a00 a01 a20 a21) * a10 + ((D2 a00 a01 a10 a11) * a20 + 0)), (D2 a10 a11 a20 a21) * a01 + ((-D2 a00 a01 a20 a21) * a11 + ((D2 a00 a01 a10 a11) * a21 + 0)), (D2 a10 a11 a20 a21) * a02 + ((-D2 a00 a01 a20 a21) * a12 + ((D2 a00 a01 a10 a11) * a22 + 0))]] = _
  rw [scal_eq3]
  rw [adj3r00 a00 a01 a02 a10 a11 a12 a20 a21 a22, adj3r01 a00 a01 a02 a10 a11 a12 a20 a21 a22, adj3r02 a00 a01 a02 a10 a11 a12 a20 a21 a22, adj3r10 a00 a01 a02 a10 a11 a12 a20 a21 a22, adj3r11 a00 a01 a02 a10 a11 a12 a20 a21 a22, adj3r12 a00 a01 a02 a10 a11 a12 a20 a21 a22, adj3r20 a00 a01 a02 a10 a11 a12 a20 a21 a22, adj3r21 a00 a01 a02 a10 a11 a12 a20 a21 a22, adj3r22 a00 a01 a02 a10 a11 a12 a20 a21 a22]
theorem mul_eq4 (a00 a01 a02 a03 a10 a11 a12 a13 a20 a21 a22 a23 a30 a31 a32 a33 b00 b01 b02 b03 b10 b11 b12 b13 b20 b21 b22 b23 b30 b31 b32 b33 : Int) : mulM [[a00, a01, a02, a03], [a10, a11, a12, a13], [a20, a21, a22, a23], [a30, a31, a32, a33]] [[b00, b01, b02, b03], [b10, b11, b12, b13], [b20, b21, b22, b23], [b30, b31, b32, b33]] 4 = [[a00 * b00 + (a01 * b10 + (a02 * b20 + (a03 * b30 + 0))), a00 * b01 + (a01 * b11 + (a02 * b21 + (a03 * b31 + 0))), a00 * b02 + (a01 * b12 + (a02 * b22 + (a03 * b32 + 0))), a00 * b03 + (a01 * b13 + (a02 * b23 + (a03 * b33 + 0)))], [a10 * b00 + (a11 * b10 + (a12 * b20 + (a13 * b30 + 0))), a10 * b01 + (a11 * b11 + (a12 * b21 + (a13 * b31 + 0))), a10 * b02 + (a11 * b12 + (a12 * b22 + (a13 * b32 + 0))), a10 * b03 + (a11 * b13 + (a12 * b23 + (a13 * b33 + 0)))], [a20 * b00 + (a21 * b10 + (a22 * b20 + (a23 * b30 + 0))), a20 * b01 + (a21 * b11 + (a22 * b21 + (a23 * b31 + 0))), a20 * b02 + (a21 * b12 + (a22 * b22 + (a23 * b32 + 0))), a20 * b03 + (a21 * b13 + (a22 * b23 + (a23 * b33 + 0)))], [a30 * b00 + (a31 * b10 + (a32 * b20 + (a33 * b30 + 0))), a30 * b01 + (a31 * b11 + (a32 * b21 + (a33 * b31 + 0))), a30 * b02 + (a31 * b12 + (a32 * b22 + (a33 * b32 + 0))), a30 * b03 + (a31 * b13 + (a32 * b23 + (a33 * b33 + 0)))]] := rfl
set_option maxHeartbeats 40000000 in
theorem mulD4 (a00 a01 a02 a03 a10 a11 a12 a13 a20 a21 a22 a23 a30 a31 a32 a33 b00 b01 b02 b03 b10 b11 b12 b13 b20 b21 b22 b23 b30 b31 b32 b33 : Int) : D4 (a00 * b00 + (a01 * b10 + (a02 * b20 + (a03 * b30 + 0)))) (a00 * b01 + (a01 * b11 + (a02 * b21 + (a03 * b31 + 0)))) (a00 * b02 + (a01 * b12 + (a02 * b22 + (a03 * b32 + 0)))) (a00 * b03 + (a01 * b13 + (a02 * b23 + (a03 * b33 + 0)))) (a10 * b00 + (a11 * b10 + (a12 * b20 + (a13 * b30 + 0)))) (a10 * b01 + (a11 * b11 + (a12 * b21 + (a13 * b31 + 0)))) (a10 * b02 + (a11 * b12 + (a12 * b22 + (a13 * b32 + 0)))) (a10 * b03 + (a11 * b13 + (a12 * b23 + (a13 * b33 + 0)))) (a20 * b00 + (a21 * b10 + (a22 * b20 + (a23 * b30 + 0)))) (a20 * b01 + (a21 * b11 + (a22 * b21 + (a23 * b31 + 0)))) (a20 * b02 + (a21 * b12 + (a22 * b22 + (a23 * b32 + 0)))) (a20 * b03 + (a21 * b13 + (a22 * b23 + (a23 * b33 + 0)))) (a30 * b00 + (a31 * b10 + (a32 * b20 + (a33 * b30 + 0)))) (a30 * b01 + (a31 * b11 + (a32 * b21 + (a33 * b31 + 0)))) (a30 * b02 + (a31 * b12 + (a32 * b22 + (a33 * b32 + 0)))) (a30 * b03 + (a31 * b13 + (a32 * b23 + (a33 * b33 + 0)))) = D4 a00 a01 a02 a03 a10 a11 a12 a13 a20 a21 a22 a23 a30 a31 a32 a33 * D4 b00 b01 b02 b03 b10 b11 b12 b13 b20 b21 b22 b23 b30 b31 b32 b33 := by
  unfold D4 D3 D2
  grind
theorem tr_eq4 (a00 a01 a02 a03 a10 a11 a12 a13 a20 a21 a22 a23 a30 a31 a32 a33 : Int) : transp [[a00, a01, a02, a03], [a10, a11, a12, a13], [a20, a21, a22, a23], [a30, a31, a32, a33]] 4 = [[a00, a10, a20, a30], [a01, a11, a21, a31], [a02, a12, a22, a32], [a03, a13, a23, a33]] := rfl
theorem trD4 (a00 a01 a02 a03 a10 a11 a12 a13 a20 a21 a22 a23 a30 a31 a32 a33 : Int) : D4 a00 a10 a20 a30 a01 a11 a21 a31 a02 a12 a22 a32 a03 a13 a23 a33 = D4 a00 a01 a02 a03 a10 a11 a12 a13 a20 a21 a22 a23 a30 a31 a32 a33 := by
  unfold D4 D3 D2
  grind
theorem due_eq4 (a00 a01 a02 a03 a10 a11 a12 a13 a20 a21 a22 a23 a30 a31 a32 a33 : Int) : dueM 4 [[a00, a01, a02, a03], [a10, a11, a12, a13], [a20, a21, a22, a23], [a30, a31, a32, a33]] = [[D3 a11 a12 a13 a21 a22 a23 a31 a32 a33, -D3 a01 a02 a03 a21 a22 a23 a31 a32 a33, D3 a01 a02 a03 a11 a12 a13 a31 a32 a33, -D3 a01 a02 a03 a11 a12 a13 a21 a22 a23], [-D3 a10 a12 a13 a20 a22 a23 a30 a32 a33, D3 a00 a02 a03 a20 a22 a23 a30 a32 a33, -D3 a00 a02 a03 a10 a12 a13 a30 a32 a33, D3 a00 a02 a03 a10 a12 a13 a20 a22 a23], [D3 a10 a11 a13 a20 a21 a23 a30 a31 a33, -D3 a00 a01 a03 a20 a21 a23 a30 a31 a33, D3 a00 a01 a03 a10 a11 a13 a30 a31 a33, -D3 a00 a01 a03 a10 a11 a13 a20 a21 a23], [-D3 a10 a11 a12 a20 a21 a22 a30 a31 a32, D3 a00 a01 a02 a20 a21 a22 a30 a31 a32, -D3 a00 a01 a02 a10 a11 a12 a30 a31 a32, D3 a00 a01 a02 a10 a11 a12 a20 a21 a22]] := by
  show [[sgn (0 + 0) * detL 3 [[a11, a12, a13], [a21, a22, a23], [a31, a32, a33]], sgn (0 + 1) * detL 3 [[a01, a02, a03], [a21, a22, a23], [a31, a32, a33]], sgn (0 + 2) * detL 3 [[a01, a02, a03], [a11, a12, a13], [a31, a32, a33]], sgn (0 + 3) * detL 3 [[a01, a02, a03], [a11, a12, a13], [a21, a22, a23]]], [sgn (1 + 0) * detL 3 [[a10, a12, a13], [a20, a22, a23], [a30, a32, a33]], sgn (1 + 1) * detL 3 [[a00, a02, a03], [a20, a22, a23], [a30, a32, a33]], sgn (1 + 2) * detL 3 [[a00, a02, a03], [a10, a12, a13], [a30, a32, a33]], sgn (1 + 3) * detL 3 [[a00, a02, a03], [a10, a12, a13], [a20, a22, a23]]], [sgn (2 + 0) * detL 3 [[a10, a11, a13], [a20, a21, a23], [a30, a31, a33]], sgn (2 + 1) * detL 3 [[a00, a01, a03], [a20, a21, a23], [a30, a31, a33]], sgn (2 + 2) * detL 3 [[a00, a01, a03], [a10, a11, a13], [a30, a31, a33]], sgn (2 + 3) * detL 3 [[a00, a01, a03], [a10, a11, a13], [a20, a21, a23]]], [sgn (3 + 0) * detL 3 [[a10, a11, a12], [a20, a21, a22], [a30, a31, a32]], sgn (3 + 1) * detL 3 [[a00, a01, a02], [a20, a21, a22], [a30, a31, a32]], sgn (3 + 2) * detL 3 [[a00, a01, a02], [a10, a11, a12], [a30, a31, a32]], sgn (3 + 3) * detL 3 [[a00, a01, a02], [a10, a11, a12], [a20, a21, a22]]]] = _
  simp only [detL3]
  simp only [sgn_even (show (0 + 0) % 2 = 0 from rfl), sgn_odd (show (0 + 1) % 2 = 1 from rfl), sgn_even (show (0 + 2) % 2 = 0 from rfl), sgn_odd (show (0 + 3) % 2 = 1 from rfl), sgn_odd (show (1 + 0) % 2 = 1 from rfl), sgn_even (show (1 + 1) % 2 = 0 from rfl), sgn_odd (show (1 + 2) % 2 = 1 from rfl), sgn_even (show (1 + 3) % 2 = 0 from rfl), sgn_even (show (2 + 0) % 2 = 0 from rfl), sgn_odd (show (2 + 1) % 2 = 1 from rfl), sgn_even (show (2 + 2) % 2 = 0 from rfl), sgn_odd (show (2 + 3) % 2 = 1 from rfl), sgn_odd (show (3 + 0) % 2 = 1 from rfl), sgn_even (show (3 + 1) % 2 = 0 from rfl), sgn_odd (show (3 + 2) % 2 = 1 from rfl), sgn_even (show (3 + 3) % 2 = 0 from rfl), Int.one_mul, Int.neg_mul]
theorem adj4l00 (a00 a01 a02 a03 a10 a11 a12 a13 a20 a21 a22 a23 a30 a31 a32 a33 : Int) : a00 * (D3 a11 a12 a13 a21 a22 a23 a31 a32 a33) + (a01 * (-D3 a10 a12 a13 a20 a22 a23 a30 a32 a33) + (a02 * (D3 a10 a11 a13 a20 a21 a23 a30 a31 a33) + (a03 * (-D3 a10 a11 a12 a20 a21 a22 a30 a31 a32) + 0))) = D4 a00 a01 a02 a03 a10 a11 a12 a13 a20 a21 a22 a23 a30 a31 a32 a33 * 1 := by
  unfold D4 D3 D2
  grind
theorem adj4l01 (a00 a01 a02 a03 a10 a11 a12 a13 a20 a21 a22 a23 a30 a31 a32 a33 : Int) : a00 * (-D3 a01 a02 a03 a21 a22 a23 a31 a32 a33) + (a01 * (D3 a00 a02 a03 a20 a22 a23 a30 a32 a33) + (a02 * (-D3 a00 a01 a03 a20 a21 a23 a30 a31 a33) + (a03 * (D3 a00 a01 a02 a20 a21 a22 a30 a31 a32) + 0))) = D4 a00 a01 a02 a03 a10 a11 a12 a13 a20 a21 a22 a23 a30 a31 a32 a33 * 0 := by
  unfold D4 D3 D2
  grind
theorem adj4l02 (a00 a01 a02 a03 a10 a11 a12 a13 a20 a21 a22 a23 a30 a31 a32 a33 : Int) : a00 * (D3 a01 a02 a03 a11 a12 a13 a31 a32 a33) + (a01 * (-D3 a00 a02 a03 a10 a12 a13 a30 a32 a33) + (a02 * (D3 a00 a01 a03 a10 a11 a13 a30 a31 a33) + (a03 * (-D3 a00 a01 a02 a10 a11 a12 a30 a31 a32) + 0))) = D4 a00 a01 a02 a03 a10 a11 a12 a13 a20 a21 a22 a23 a30 a31 a32 a33 * 0 := by
  unfold D4 D3 D2
  grind
theorem adj4l03 (a00 a01 a02 a03 a10 a11 a12 a13 a20 a21 a22 a23 a30 a31 a32 a33 : Int) : a00 * (-D3 a01 a02 a03 a11 a12 a13 a21 a22 a23) + (a01 * (D3 a00 a02 a03 a10 a12 a13 a20 a22 a23) + (a02 * (-D3 a00 a01 a03 a10 a11 a13 a20 a21 a23) + (a03 * (D3 a00 a01 a02 a10 a11 a12 a20 a21 a22) + 0))) = D4 a00 a01 a02 a03 a10 a11 a12 a13 a20 a21 a22 a23 a30 a31 a32 a33 * 0 := by
  unfold D4 D3 D2
  grind
theorem adj4l10 (a00 a01 a02 a03 a10 a11 a12 a13 a20 a21 a22 a23 a30 a31 a32 a33 : Int) : a10 * (D3 a11 a12 a13 a21 a22 a23 a31 a32 a33) + (a11 * (-D3 a10 a12 a13 a20 a22 a23 a30 a32 a33) + (a12 * (D3 a10 a11 a13 a20 a21 a23 a30 a31 a33) + (a13 * (-D3 a10 a11 a12 a20 a21 a22 a30 a31 a32) + 0))) = D4 a00 a01 a02 a03 a10 a11 a12 a13 a20 a21 a22 a23 a30 a31 a32 a33 * 0 := by
  unfold D4 D3 D2
  grind
theorem adj4l11 (a00 a01 a02 a03 a10 a11 a12 a13 a20 a21 a22 a23 a30 a31 a32 a33 : Int) : a10 * (-D3 a01 a02 a03 a21 a22 a23 a31 a32 a33) + (a11 * (D3 a00 a02 a03 a20 a22 a23 a30 a32 a33) + (a12 * (-D3 a00 a01 a03 a20 a21 a23 a30 a31 a33) + (a13 * (D3 a00 a01 a02 a20 a21 a22 a30 a31 a32) + 0))) = D4 a00 a01 a02 a03 a10 a11 a12 a13 a20 a21 a22 a23 a30 a31 a32 a33 * 1 := by
  unfold D4 D3 D2
  grind
theorem adj4l12 (a00 a01 a02 a03 a10 a11 a12 a13 a20 a21 a22 a23 a30 a31 a32 a33 : Int) : a10 * (D3 a01 a02 a03 a11 a12 a13 a31 a32 a33) + (a11 * (-D3 a00 a02 a03 a10 a12 a13 a30 a32 a33) + (a12 * (D3 a00 a01 a03 a10 a11 a13 a30 a31 a33) + (a13 * (-D3 a00 a01 a02 a10 a11 a12 a30 a31 a32) + 0))) = D4 a00 a01 a02 a03 a10 a11 a12 a13 a20 a21 a22 a23 a30 a31 a32 a33 * 0 := by
  unfold D4 D3 D2
  grind
theorem adj4l13 (a00 a01 a02 a03 a10 a11 a12 a13 a20 a21 a22 a23 a30 a31 a32 a33 : Int) : a10 * (-D3 a01 a02 a03 a11 a12 a13 a21 a22 a23) + (a11 * (D3 a00 a02 a03 a10 a12 a13 a20 a22 a23) + (a12 * (-D3 a00 a01 a03 a10 a11 a13 a20 a21 a23) + (a13 * (D3 a00 a01 a02 a10 a11 a12 a20 a21 a22) + 0))) = D4 a00 a01 a02 a03 a10 a11 a12 a13 a20 a21 a22 a23 a30 a31 a32 a33 * 0 := by
  unfold D4 D3 D2
  grind
theorem adj4l20 (a00 a01 a02 a03 a10 a11 a12 a13 a20 a21 a22 a23 a30 a31 a32 a33 : Int) : a20 * (D3 a11 a12 a13 a21 a22 a23 a31 a32 a33) + (a21 * (-D3 a10 a12 a13 a20 a22 a23 a30 a32 a33) + (a22 * (D3 a10 a11 a13 a20 a21 a23 a30 a31 a33) + (a23 * (-D3 a10 a11 a12 a20 a21 a22 a30 a31 a32) + 0))) = D4 a00 a01 a02 a03 a10 a11 a12 a13 a20 a21 a22 a23 a30 a31 a32 a33 * 0 := by
  unfold D4 D3 D2
  grind
theorem adj4l21 (a00 a01 a02 a03 a10 a11 a12 a13 a20 a21 a22 a23 a30 a31 a32 a33 : Int) : a20 * (-D3 a01 a02 a03 a21 a22 a23 a31 a32 a33) + (a21 * (D3 a00 a02 a03 a20 a22 a23 a30 a32 a33) + (a22 * (-D3 a00 a01 a03 a20 a21 a23 a30 a31 a33) + (a23 * (D3 a00 a01 a02 a20 a21 a22 a30 a31 a32) + 0))) = D4 a00 a01 a02 a03 a10 a11 a12 a13 a20 a21 a22 a23 a30 a31 a32 a33 * 0 := by
  unfold D4 D3 D2
  grind
theorem adj4l22 (a00 a01 a02 a03 a10 a11 a12 a13 a20 a21 a22 a23 a30 a31 a32 a33 : Int) : a20 * (D3 a01 a02 a03 a11 a12 a13 a31 a32 a33) + (a21 * (-D3 a00 a02 a03 a10 a12 a13 a30 a32 a33) + (a22 * (D3 a00 a01 a03 a10 a11 a13 a30 a31 a33) + (a23 * (-D3 a00 a01 a02 a10 a11 a12 a30 a31 a32) + 0))) = D4 a00 a01 a02 a03 a10 a11 a12 a13 a20 a21 a22 a23 a30 a31 a32 a33 * 1 := by
  unfold D4 D3 D2
  grind
theorem adj4l23 (a00 a01 a02 a03 a10 a11 a12 a13 a20 a21 a22 a23 a30 a31 a32 a33 : Int) : a20 * (-D3 a01 a02 a03 a11 a12 a13 a21 a22 a23) + (a21 * (D3 a00 a02 a03 a10 a12 a13 a20 a22 a23) + (a22 * (-D3 a00 a01 a03 a10 a11 a13 a20 a21 a23) + (a23 * (D3 a00 a01 a02 a10 a11 a12 a20 a21 a22) + 0))) = D4 a00 a01 a02 a03 a10 a11 a12 a13 a20 a21 a22 a23 a30 a31 a32 a33 * 0 := by
  unfold D4 D3 D2
  grind
theorem adj4l30 (a00 a01 a02 a03 a10 a11 a12 a13 a20 a21 a22 a23 a30 a31 a32 a33 : Int) : a30 * (D3 a11 a12 a13 a21 a22 a23 a31 a32 a33) + (a31 * (-D3 a10 a12 a13 a20 a22 a23 a30 a32 a33) + (a32 * (D3 a10 a11 a13 a20 a21 a23 a30 a31 a33) + (a33 * (-D3 a10 a11 a12 a20 a21 a22 a30 a31 a32) + 0))) = D4 a00 a01 a02 a03 a10 a11 a12 a13 a20 a21 a22 a23 a30 a31 a32 a33 * 0 := by
  unfold D4 D3 D2
  grind
theorem adj4l31 (a00 a01 a02 a03 a10 a11 a12 a13 a20 a21 a22 a23 a30 a31 a32 a33 : Int) : a30 * (-D3 a01 a02 a03 a21 a22 a23 a31 a32 a33) + (a31 * (D3 a00 a02 a03 a20 a22 a23 a30 a32 a33) + (a32 * (-D3 a00 a01 a03 a20 a21 a23 a30 a31 a33) + (a33 * (D3 a00 a01 a02 a20 a21 a22 a30 a31 a32) + 0))) = D4 a00 a01 a02 a03 a10 a11 a12 a13 a20 a21 a22 a23 a30 a31 a32 a33 * 0 := by
  unfold D4 D3 D2
  grind
theorem adj4l32 (a00 a01 a02 a03 a10 a11 a12 a13 a20 a21 a22 a23 a30 a31 a32 a33 : Int) : a30 * (D3 a01 a02 a03 a11 a12 a13 a31 a32 a33) + (a31 * (-D3 a00 a02 a03 a10 a12 a13 a30 a32 a33) + (a32 * (D3 a00 a01 a03 a10 a11 a13 a30 a31 a33) + (a33 * (-D3 a00 a01 a02 a10 a11 a12 a30 a31 a32) + 0))) = D4 a00 a01 a02 a03 a10 a11 a12 a13 a20 a21 a22 a23 a30 a31 a32 a33 * 0 := by
  unfold D4 D3 D2
  grind
theorem adj4l33 (a00 a01 a02 a03 a10 a11 a12 a13 a20 a21 a22 a23 a30 a31 a32 a33 : Int) : a30 * (-D3 a01 a02 a03 a11 a12 a13 a21 a22 a23) + (a31 * (D3 a00 a02 a03 a10 a12 a13 a20 a22 a23) + (a32 * (-D3 a00 a01 a03 a10 a11 a13 a20 a21 a23) + (a33 * (D3 a00 a01 a02 a10 a11 a12 a20 a21 a22) + 0))) = D4 a00 a01 a02 a03 a10 a11 a12 a13 a20 a21 a22 a23 a30 a31 a32 a33 * 1 := by
  unfold D4 D3 D2
  grind
theorem adj4r00 (a00 a01 a02 a03 a10 a11 a12 a13 a20 a21 a22 a23 a30 a31 a32 a33 : Int) : (D3 a11 a12 a13 a21 a22 a23 a31 a32 a33) * a00 + ((-D3 a01 a02 a03 a21 a22 a23 a31 a32 a33) * a10 + ((D3 a01 a02 a03 a11 a12 a13 a31 a32 a33) * a20 + ((-D3 a01 a02 a03 a11 a12 a13 a21 a22 a23) * a30 + 0))) = D4 a00 a01 a02 a03 a10 a11 a12 a13 a20 a21 a22 a23 a30 a31 a32 a33 * 1 := by
  unfold D4 D3 D2
  grind
theorem adj4r01 (a00 a01 a02 a03 a10 a11 a12 a13 a20 a21 a22 a23 a30 a31 a32 a33 : Int) : (D3 a11 a12 a13 a21 a22 a23 a31 a32 a33) * a01 + ((-D3 a01 a02 a03 a21 a22 a23 a31 a32 a33) * a11 + ((D3 a01 a02 a03 a11 a12 a13 a31 a32 a33) * a21 + ((-D3 a01 a02 a03 a11 a12 a13 a21 a22 a23) * a31 + 0))) = D4 a00 a01 a02 a03 a10 a11 a12 a13 a20 a21 a22 a23 a30 a31 a32 a33 * 0 := by
  unfold D4 D3 D2
  grind
theorem adj4r02 (a00 a01 a02 a03 a10 a11 a12 a13 a20 a21 a22 a23 a30 a31 a32 a33 : Int) : (D3 a11 a12 a13 a21 a22 a23 a31 a32 a33) * a02 + ((-D3 a01 a02 a03 a21 a22 a23 a31 a32 a33) * a12 + ((D3 a01 a02 a03 a11 a12 a13 a31 a32 a33) * a22 + ((-D3 a01 a02 a03 a11 a12 a13 a21 a22 a23) * a32 + 0))) = D4 a00 a01 a02 a03 a10 a11 a12 a13 a20 a21 a22 a23 a30 a31 a32 a33 * 0 := by
  unfold D4 D3 D2
  grind
theorem adj4r03 (a00 a01 a02 a03 a10 a11 a12 a13 a20 a21 a22 a23 a30 a31 a32 a33 : Int) : (D3 a11 a12 a13 a21 a22 a23 a31 a32 a33) * a03 + ((-D3 a01 a02 a03 a21 a22 a23 a31 a32 a33) * a13 + ((D3 a01 a02 a03 a11 a12 a13 a31 a32 a33) * a23 + ((-D3 a01 a02 a03 a11 a12 a13 a21 a22 a23) * a33 + 0))) = D4 a00 a01 a02 a03 a10 a11 a12 a13 a20 a21 a22 a23 a30 a31 a32 a33 * 0 := by
  unfold D4 D3 D2
  grind
theorem adj4r10 (a00 a01 a02 a03 a10 a11 a12 a13 a20 a21 a22 a23 a30 a31 a32 a33 : Int) : (-D3 a10 a12 a13 a20 a22 a23 a30 a32 a33) * a00 + ((D3 a00 a02 a03 a20 a22 a23 a30 a32 a33) * a10 + ((-D3 a00 a02 a03 a10 a12 a13 a30 a32 a33) * a20 + ((D3 a00 a02 a03 a10 a12 a13 a20 a22 a23) * a30 + 0))) = D4 a00 a01 a02 a03 a10 a11 a12 a13 a20 a21 a22 a23 a30 a31 a32 a33 * 0 := by
  unfold D4 D3 D2
  grind
theorem adj4r11 (a00 a01 a02 a03 a10 a11 a12 a13 a20 a21 a22 a23 a30 a31 a32 a33 : Int) : (-D3 a10 a12 a13 a20 a22 a23 a30 a32 a33) * a01 + ((D3 a00 a02 a03 a20 a22 a23 a30 a32 a33) * a11 + ((-D3 a00 a02 a03 a10 a12 a13 a30 a32 a33) * a21 + ((D3 a00 a02 a03 a10 a12 a13 a20 a22 a23) * a31 + 0))) = D4 a00 a01 a02 a03 a10 a11 a12 a13 a20 a21 a22 a23 a30 a31 a32 a33 * 1 := by
  unfold D4 D3 D2
  grind
theorem adj4r12 (a00 a01 a02 a03 a10 a11 a12 a13 a20 a21 a22 a23 a30 a31 a32 a33 : Int) : (-D3 a10 a12 a13 a20 a22 a23 a30 a32 a33) * a02 + ((D3 a00 a02 a03 a20 a22 a23 a30 a32 a33) * a12 + ((-D3 a00 a02 a03 a10 a12 a13 a30 a32 a33) * a22 + ((D3 a00 a02 a03 a10 a12 a13 a20 a22 a23) * a32 + 0))) = D4 a00 a01 a02 a03 a10 a11 a12 a13 a20 a21 a22 a23 a30 a31 a32 a33 * 0 := by
  unfold D4 D3 D2
  grind
theorem adj4r13 (a00 a01 a02 a03 a10 a11 a12 a13 a20 a21 a22 a23 a30 a31 a32 a33 : Int) : (-D3 a10 a12 a13 a20 a22 a23 a30 a32 a33) * a03 + ((D3 a00 a02 a03 a20 a22 a23 a30 a32 a33) * a13 + ((-D3 a00 a02 a03 a10 a12 a13 a30 a32 a33) * a23 + ((D3 a00 a02 a03 a10 a12 a13 a20 a22 a23) * a33 + 0))) = D4 a00 a01 a02 a03 a10 a11 a12 a13 a20 a21 a22 a23 a30 a31 a32 a33 * 0 := by
  unfold D4 D3 D2
  grind
theorem adj4r20 (a00 a01 a02 a03 a10 a11 a12 a13 a20 a21 a22 a23 a30 a31 a32 a33 : Int) : (D3 a10 a11 a13 a20 a21 a23 a30 a31 a33) * a00 + ((-D3 a00 a01 a03 a20 a21 a23 a30 a31 a33) * a10 + ((D3 a00 a01 a03 a10 a11 a13 a30 a31 a33) * a20 + ((-D3 a00 a01 a03 a10 a11 a13 a20 a21 a23) * a30 + 0))) = D4 a00 a01 a02 a03 a10 a11 a12 a13 a20 a21 a22 a23 a30 a31 a32 a33 * 0 := by
  unfold D4 D3 D2
  grind
theorem adj4r21 (a00 a01 a02 a03 a10 a11 a12 a13 a20 a21 a22 a23 a30 a31 a32 a33 : Int) : (D3 a10 a11 a13 a20 a21 a23 a30 a31 a33) * a01 + ((-D3 a00 a01 a03 a20 a21 a23 a30 a31 a33) * a11 + ((D3 a00 a01 a03 a10 a11 a13 a30 a31 a33) * a21 + ((-D3 a00 a01 a03 a10 a11 a13 a20 a21 a23) * a31 + 0))) = D4 a00 a01 a02 a03 a10 a11 a12 a13 a20 a21 a22 a23 a30 a31 a32 a33 * 0 := by
  unfold D4 D3 D2
  grind
theorem adj4r22 (a00 a01 a02 a03 a10 a11 a12 a13 a20 a21 a22 a23 a30 a31 a32 a33 : Int) : (D3 a10 a11 a13 a20 a21 a23 a30 a31 a33) * a02 + ((-D3 a00 a01 a03 a20 a21 a23 a30 a31 a33) * a12 + ((D3 a00 a01 a03 a10 a11 a13 a30 a31 a33) * a22 + ((-D3 a00 a01 a03 a10 a11 a13 a20 a21 a23) * a32 + 0))) = D4 a00 a01 a02 a03 a10 a11 a12 a13 a20 a21 a22 a23 a30 a31 a32 a33 * 1 := by
  unfold D4 D3 D2
  grind
theorem adj4r23 (a00 a01 a02 a03 a10 a11 a12 a13 a20 a21 a22 a23 a30 a31 a32 a33 : Int) : (D3 a10 a11 a13 a20 a21 a23 a30 a31 a33) * a03 + ((-D3 a00 a01 a03 a20 a21 a23 a30 a31 a33) * a13 + ((D3 a00 a01 a03 a10 a11 a13 a30 a31 a33) * a23 + ((-D3 a00 a01 a03 a10 a11 a13 a20 a21 a23) * a33 + 0))) = D4 a00 a01 a02 a03 a10 a11 a12 a13 a20 a21 a22 a23 a30 a31 a32 a33 * 0 := by
  unfold D4 D3 D2
  grind
theorem adj4r30 (a00 a01 a02 a03 a10 a11 a12 a13 a20 a21 a22 a23 a30 a31 a32 a33 : Int) : (-D3 a10 a11 a12 a20 a21 a22 a30 a31 a32) * a00 + ((D3 a00 a01 a02 a20 a21 a22 a30 a31 a32) * a10 + ((-D3 a00 a01 a02 a10 a11 a12 a30 a31 a32) * a20 + ((D3 a00 a01 a02 a10 a11 a12 a20 a21 a22) * a30 + 0))) = D4 a00 a01 a02 a03 a10 a11 a12 a13 a20 a21 a22 a23 a30 a31 a32 a33 * 0 := by
  unfold D4 D3 D2
  grind
theorem adj4r31 (a00 a01 a02 a03 a10 a11 a12 a13 a20 a21 a22 a23 a30 a31 a32 a33 : Int) : (-D3 a10 a11 a12 a20 a21 a22 a30 a31 a32) * a01 + ((D3 a00 a01 a02 a20 a21 a22 a30 a31 a32) * a11 + ((-D3 a00 a01 a02 a10 a11 a12 a30 a31 a32) * a21 + ((D3 a00 a01 a02 a10 a11 a12 a20 a21 a22) * a31 + 0))) = D4 a00 a01 a02 a03 a10 a11 a12 a13 a20 a21 a22 a23 a30 a31 a32 a33 * 0 := by
  unfold D4 D3 D2
  grind
theorem adj4r32 (a00 a01 a02 a03 a10 a11 a12 a13 a20 a21 a22 a23 a30 a31 a32 a33 : Int) : (-D3 a10 a11 a12 a20 a21 a22 a30 a31 a32) * a02 + ((D3 a00 a01 a02 a20 a21 a22 a30 a31 a32) * a12 + ((-D3 a00 a01 a02 a10 a11 a12 a30 a31 a32) * a22 + ((D3 a00 a01 a02 a10 a11 a12 a20 a21 a22) * a32 + 0))) = D4 a00 a01 a02 a03 a10 a11 a12 a13 a20 a21 a22 a23 a30 a31 a32 a33 * 0 := by
  unfold D4 D3 D2
  grind
theorem adj4r33 (a00 a01 a02 a03 a10 a11 a12 a13 a20 a21 a22 a23 a30 a31 a32 a33 : Int) : (-D3 a10 a11 a12 a20 a21 a22 a30 a31 a32) * a03 + ((D3 a00 a01 a02 a20 a21 a22 a30 a31 a32) * a13 + ((-D3 a00 a01 a02 a10 a11 a12 a30 a31 a32) * a23 + ((D3 a00 a01 a02 a10 a11 a12 a20 a21 a22) * a33 + 0))) = D4 a00 a01 a02 a03 a10 a11 a12 a13 a20 a21 a22 a23 a30 a31 a32 a33 * 1 := by
  unfold D4 D3 D2
  grind
theorem scal_eq4 (d : Int) : scalM 4 d = [[d * 1, d * 0, d * 0, d * 0], [d * 0, d * 1, d * 0, d * 0], [d * 0, d * 0, d * 1, d * 0], [d * 0, d * 0, d * 0, d * 1]] := rfl
theorem adjM4l (a00 a01 a02 a03 a10 a11 a12 a13 a20 a21 a22 a23 a30 a31 a32 a33 : Int) : mulM [[a00, a01, a02, a03], [a10, a11, a12, a13], [a20, a21, a22, a23], [a30, a31, a32, a33]] [[D3 a11 a12 a13 a21 a22 a23 a31 a32 a33, -D3 a01 a02 a03 a21 a22 a23 a31 a32 a33, D3 a01 a02 a03 a11 a12 a13 a31 a32 a33, -D3 a01 a02 a03 a11 a12 a13 a21 a22 a23], [-D3 a10 a12 a13 a20 a22 a23 a30 a32 a33, D3 a00 a02 a03 a20 a22 a23 a30 a32 a33, -D3 a00 a02 a03 a10 a12 a13 a30 a32 a33, D3 a00 a02 a03 a10 a12 a13 a20 a22 a23], [D3 a10 a11 a13 a20 a21 a23 a30 a31 a33, -D3 a00 a01 a03 a20 a21 a23 a30 a31 a33, D3 a00 a01 a03 a10 a11 a13 a30 a31 a33, -D3 a00 a01 a03 a10 a11 a13 a20 a21 a23], [-D3 a10 a11 a12 a20 a21 a22 a30 a31 a32, D3 a00 a01 a02 a20 a21 a22 a30 a31 a32, -D3 a00 a01 a02 a10 a11 a12 a30 a31 a32, D3 a00 a01 a02 a10 a11 a12 a20 a21 a22]] 4 = scalM 4 (D4 a00 a01 a02 a03 a10 a11 a12 a13 a20 a21 a22 a23 a30 a31 a32 a33) := by
  show [[a00 * (D3 a11 a12 a13 a21 a22 a23 a31 a32 a33) + (a01 * (-D3 a10 a12 a13 a20 a22 a23 a30 a32 a33) + (a02 * (D3 a10 a11 a13 a20 a21 a23 a30 a31 a33) + (a03 * (-D3 a10 a11 a12 a20 a21 a22 a30 a31 a32) + 0))), a00 * (-D3 a01 a02 a03 a21 a22 a23 a31 a32 a33) + (a01 * (D3 a00 a02 a03 a20 a22 a23 a30 a32 a33) + (a02 * (-D3 a00 a01 a03 a20 a21 a23 a30 a31 a33) + (a03 * (D3 a00 a01 a02 a20 a21 a22 a30 a31 a32) + 0))), a00 * (D3 a01 a02 a03 a11 a12 a13 a31 a32 a33) + (a01 * (-D3 a00 a02 a03 a10 a12 a13 a30 a32 a33) + (a02 * (D3 a00 a01 a03 a10 a11 a13 a30 a31 a33) + (a03 * (-D3 a00 a01 a02 a10 a11 a12 a30 a31 a32) + 0))), a00 * (-D3 a01 a02 a03 a11 a12 a13 a21 a22 a23) + (a01 * (D3 a00 a02 a03 a10 a12 a13 a20 a22 a23) + (a02 * (-D3 a00 a01 a03 a10 a11 a13 a20 a21 a23) + (a03 * (D3 a00 a01 a02 a10 a11 a12 a20 a21 a22) + 0)))], [a10 * (D3 a11 a12 a13 a21 a22 a23 a31 a32 a33) + (a11 * (-D3 a10 a12 a13 a20 a22 a23 a30 a32 a33) + (a12 * (D3 a10 a11 a13 a20 a21 a23 a30 a31 a33) + (a13 * (-D3 a10 a11 a12 a20 a21 a22 a30 a31 a32) + 0))), a10 * (-D3 a01 a02 a03 a21 a22 a23 a31 a32 a33) + (a11 * (D3 a00 a02 a03 a20 a22 a23 a30 a32 a33) + (a12 * (-D3 a00 a01 a03 a20 a21 a23 a30 a31 a33) + (a13 * (D3 a00 a01 a02 a20 a21 a22 a30 a31 a32) + 0))), a10 * (D3 a01 a02 a03 a11 a12 a13 a31 a32 a33) + (a11 * (-D3 a00 a02 a03 a10 a12 a13 a30 a32 a33) + (a12 * (D3 a00 a01 a03 a10 a11 a13 a30 a31 a33) + (a13 * (-D3 a00 a01 a02 a10 a11 a12 a30 a31 a32) + 0))), a10 * (-D3 a01 a02 a03 a11 a12 a13 a21 a22 a23) + (a11 * (D3 a00 a02 a03 a10 a12 a13 a20 a22 a23) + (a12 * (-D3 a00 a01 a03 a10 a11 a13 a20 a21 a23) + (a13 * (D3 a00 a01 a02 a10 a11 a12 a20 a21 a22) + 0)))], [a20 * (D3 a11 a12 a13 a21 a22 a23 a31 a32 a33) + (a21 * (-D3 a10 a12 a13 a20 a22 a23 a30 a32 a33) + (a22 * (D3 a10 a11 a13 a20 a21 a23 a30 a31 a33) + (a23 * (-D3 a10 a11 a12 a20 a21 a22 a30 a31 a32) + 0))), a20 * (-D3 a01 a02 a03 a21 a22 a23 a31 a32 a33) + (a21 * (D3 a00 a02 a03 a20 a22 a23 a30 a32 a33) + (a22 * (-D3 a00 a01 a03 a20 a21 a23 a30 a31 a33) + (a23 * (D3 a00 a01 a02 a20 a21 a22 a30 a31 a32) + 0))), a20 * (D3 a01 a02 a03 a11 a12 a13 a31 a32 a33) + (a21 * (-D3 a00 a02 a03 a10 a12 a13 a30 a32 a33) + (a22 * (D3 a00 a01 a03 a10 a11 a13 a30 a31 a33) + (a23 * (-D3 a00 a01 a02 a10 a11 a12 a30 a31 a32) + 0))), a20 * (-D3 a01 a02 a03 a11 a12 a13 a21 a22 a23) + (a21 * (D3 a00 a02 a03 a10 a12 a13 a20 a22 a23) + (a22 * (-D3 a00 a01 a03 a10 a11 a13 a20 a21 a23) + (a23 * (D3 a00 a01 a02 a10 a11 a12 a20 a21 a22) + 0)))], [a30 * (D3 a11 a12 a13 a21 a22 a23 a31 a32 a33) + (a31 * (-D3 a10 a12 a13 a20 a22 a23 a30 a32 a33) + (a32 * (D3 a10 a11 a13 a20 a21 a23 a30 a31 a33) + (a33 * (-D3 a10 a11 a12 a20 a21 a22 a30 a31 a32) + 0))), a30 * (-D3 a01 a02 a03 a21 a22 a23 a31 a32 a33) + (a31 * (D3 a00 a02 a03 a20 a22 a23 a30 a32 a33) + (a32 * (-D3 a00 a01 a03 a20 a21 a23 a30 a31 a33) + (a33 * (D3 a00 a01 a02 a20 a21 a22 a30 a31 a32) + 0))), a30 * (D3 a01 a02 a03 a11 a12 a13 a31 a32 a33) + (a31 * (-D3 a00 a02 a03 a10 a12 a13 a30 a32 a33) + (a32 * (D3 a00 a01 a03 a10 a11 a13 a30 a31 a33) + (a33 * (-D3 a00 a01 a02 a10 a11 a12 a30 a31 a32) + 0))), a30 * (-D3 a01 a02 a03 a11 a12 a13 a21 a22 a23) + (a31 * (D3 a00 a02 a03 a10 a12 a13 a20 a22 a23) + (a32 * (-D3 a00 a01 a03 a10 a11 a13 a20 a21 a23) + (a33 * (D3 a00 a01 a02 a10 a11 a12 a20 a21 a22) + 0)))]] = _
  rw [scal_eq4]
  rw [adj4l00 a00 a01 a02 a03 a10 a11 a12 a13 a20 a21 a22 a23 a30 a31 a32 a33, adj4l01 a00 a01 a02 a03 a10 a11 a12 a13 a20 a21 a22 a23 a30 a31 a32 a33, adj4l02 a00 a01 a02 a03 a10 a11 a12 a13 a20 a21 a22 a23 a30 a31 a32 a33, adj4l03 a00 a01 a02 a03 a10 a11 a12 a13 a20 a21 a22 a23 a30 a31 a32 a33, adj4l10 a00 a01 a02 a03 a10 a11 a12 a13 a20 a21 a22 a23 a30 a31 a32 a33, adj4l11 a00 a01 a02 a03 a10 a11 a12 a13 a20 a21 a22 a23 a30 a31 a32 a33, adj4l12 a00 a01 a02 a03 a10 a11 a12 a13 a20 a21 a22 a23 a30 a31 a32 a33, adj4l13 a00 a01 a02 a03 a10 a11 a12 a13 a20 a21 a22 a23 a30 a31 a32 a33, adj4l20 a00 a01 a02 a03 a10 a11 a12 a13 a20 a21 a22 a23 a30 a31 a32 a33, adj4l21 a00 a01 a02 a03 a10 a11 a12 a13 a20 a21 a22 a23 a30 a31 a32 a33, adj4l22 a00 a01 a02 a03 a10 a11 a12 a13 a20 a21 a22 a23 a30 a31 a32 a33, adj4l23 a00 a01 a02 a03 a10 a11 a12 a13 a20 a21 a22 a23 a30 a31 a32 a33, adj4l30 a00 a01 a02 a03 a10 a11 a12 a13 a20 a21 a22 a23 a30 a31 a32 a33, adj4l31 a00 a01 a02 a03 a10 a11 a12 a13 a20 a21 a22 a23 a30 a31 a32 a33, adj4l32 a00 a01 a02 a03 a10 a11 a12 a13 a20 a21 a22 a23 a30 a31 a32 a33, adj4l33 a00 a01 a02 a03 a10 a11 a12 a13 a20 a21 a22 a23 a30 a31 a32 a33]
theorem adjM4r (a00 a01 a02 a03 a10 a11 a12 a13 a20 a21 a22 a23 a30 a31 a32 a33 : Int) : mulM [[D3 a11 a12 a13 a21 a22 a23 a31 a32 a33, -D3 a01 a02 a03 a21 a22 a23 a31 a32 a33, D3 a01 a02 a03 a11 a12 a13 a31 a32 a33, -D3 a01 a02 a03 a11 a12 a13 a21 a22 a23], [-D3 a10 a12 a13 a20 a22 a23 a30 a32 a33, D3 a00 a02 a03 a20 a22 a23 a30 a32 a33, -D3 a00 a02 a03 a10 a12 a13 a30 a32 a33, D3 a00 a02 a03 a10 a12 a13 a20 a22 a23], [D3 a10 a11 a13 a20 a21 a23 a30 a31 a33, -D3 a00 a01 a03 a20 a21 a23 a30 a31 a33, D3 a00 a01 a03 a10 a11 a13 a30 a31 a33, -D3 a00 a01 a03 a10 a11 a13 a20 a21 a23], [-D3 a10 a11 a12 a20 a21 a22 a30 a31 a32, D3 a00 a01 a02 a20 a21 a22 a30 a31 a32, -D3 a00 a01 a02 a10 a11 a12 a30 a31 a32, D3 a00 a01 a02 a10 a11 a12 a20 a21 a22]] [[a00, a01, a02, a03], [a10, a11, a12, a13], [a20, a21, a22, a23], [a30, a31, a32, a33]] 4 = scalM 4 (D4 a00 a01 a02 a03 a10 a11 a12 a13 a20 a21 a22 a23 a30 a31 a32 a33) := by
  show [[(D3 a11 a12 a13 a21 a22 a23 a31 a32 a33) * a00 + ((-D3 a01 a02 a03 a21 a22 a23 a31 a32 a33) * a10 + ((D3 a01 a02 a03 a11 a12 a13 a31 a32 a33) * a20 + ((-D3 a01 a02 a03 a11 a12 a13 a21 a22 a23) * a30 + 0))), (D3 a11 a12 a13 a21 a22 a23 a31 a32 a33) * a01 + ((-D3 a01 a02 a03 a21 a22 a23 a31 a32 a33) * a11 + ((D3 a01 a02 a03 a11 a12 a13 a31 a32 a33) * a21 + ((-D3 a01 a02 a03 a11 a12 a13 a21 a22 a23) * a31 + 0))), (D3 a11 a12 a13 a21 a22 a23 a31 a32 a33) * a02 + ((-D3 a01 a02 a03 a21 a22 a23 a31 a32 a33) * a12 + ((D3 a01 a02 a03 a11 a12 a13 a31 a32 a33) * a22 + ((-D3 a01 a02 a03 a11 a12 a13 a21 a22 a23) * a32 + 0))), (D3 a11 a12 a13 a21 a22 a23 a31 a32 a33) * a03 + ((-D3 a01 a02 a03 a21 a22 a23 a31 a32 a33) * a13 + ((D3 a01 a02 a03 a11 a12 a13 a31 a32 a33) * a23 + ((-D3 a01 a02 a03 a11 a12 a13 a21 a22 a23) * a33 + 0)))], [(-D3 a10 a12 a13 a20 a22 a23 a30 a32 a33) * a00 + ((D3 a00 a02 a03 a20 a22 a23 a30 a32 a33) * a10 + ((-D3 a00 a02 a03 a10 a12 a13 a30 a32 a33) * a20 + ((D3 a00 a02 a03 a10 a12 a13 a20 a22 a23) * a30 + 0))), (-D3 a10 a12 a13 a20 a22 a23 a30 a32 a33) * a01 + ((D3 a00 a02 a03 a20 a22 a23 a30 a32 a33) * a11 + ((-D3 a00 a02 a03 a10 a12 a13 a30 a32 a33) * a21 + ((D3 a00 a02 a03 a10 a12 a13 a20 a22 a23) * a31 + 0))), (-D3 a10 a12 a13 a20 a22 a23 a30 a32 a33) * a02 + ((D3 a00 a02 a03 a20 a22 a23 a30 a32 a33) * a12 + ((-D3 a00 a02 a03 a10 a12 a13 a30 a32 a33) * a22 + ((D3 a00 a02 a03 a10 a12 a13 a20 a22 a23) * a32 + 0))), (-D3 a10 a12 a13 a20 a22 a23 a30 a32 a33) * a03 + ((D3 a00 a02 a03 a20 a22 a23 a30 a32 a33) * a13 + ((-D3 a00 a02 a03 a10 a12 a13 a30 a32 a33) * a23 + ((D3 a00 a02 a03 a10 a12 a13 a20 a22 a23) * a33 + 0)))], [(D3 a10 a11 a13 a20 a21 a23 a30 a31 a33) * a00 + ((-D3 a00 a01 a03 a20 a21 a23 a30 a31 a33) * a10 + ((D3 a00 a01 a03 a10 a11 a13 a30 a31 a33) * a20 + ((-D3 a00 a01 a03 a10 a11 a13 a20 a21 a23) * a30 + 0))), (D3 a10 a11 a13 a20 a21 a23 a30 a31 a33) * a01 + ((-D3 a00 a01 a03 a20 a21 a23 a30 a31 a33) * a11 + ((D3 a00 a01 a03 a10 a11 a13 a30 a31 a33) * a21 + ((-D3 a00 a01 a03 a10 a11 a13 a20 a21 a23) * a31 + 0))), (D3 a10 a11 a13 a20 a21 a23 a30 a31 a33) * a02 + ((-D3 a00 a01 a03 a20 a21 a23 a30 a31 a33) * a12 + ((D3 a00 a01 a03 a10 a11 a13 a30 a31 a33) * a22 + ((-D3 a00 a01 a03 a10 a11 a13 a20 a21 a23) * a32 + 0))), (D3 a10 a11 a13 a20 a21 a23 a30 a31 a33) * a03 + ((-D3 a00 a01 a03 a20 a21 a23 a30 a31 a33) * a13 + ((D3 a00 a01 a03 a10 a11 a13 a30 a31 a33) * a23 + ((-D3 a00 a01 a03 a10 a11 a13 a20 a21 a23) * a33 + 0)))], [(-D3 a10 a11 a12 a20 a21 a22 a30 a31 a32) * a00 + ((D3 a00 a01 a02 a20 a21 a22 a30 a31 a32) * a10 + ((-D3 a00 a01 a02 a10 a11 a12 a30 a31 a32) * a20 + ((D3 a00 a01 a02 a10 a11 a12 a20 a21 a22) * a30 + 0))), (-D3 a10 a11 a12 a20 a21 a22 a30 a31 a32) * a01 + ((D3 a00 a01 a02 a20 a21 a22 a30 a31 a32) * a11 + ((-D3 a00 a01 a02 a10 a11 a12 a30 a31 a32) * a21 + ((D3 a00 a01 a02 a10 a11 a12 a20 a21 a22) * a31 + 0))), (-D3 a10 a11 a12 a20 a21 a22 a30 a31 a32) * a02 + ((D3 a00 a01 a02 a20 a21 a22 a30 a31 a32) * a12 + ((-D3 a00 a01 a02 a10 a11 a12 a30 a31 a32) * a22 + ((D3 a00 a01 a02 a10 a11 a12 a20 a21 a22) * a32 + 0))), (-D3 a10 a11 a12 a20 a21 a22 a30 a31 a32) * a03 + ((D3 a00 a01 a02 a20 a21 a22 a30 a31 a32) * a13 + ((-D3 a00 a01 a02 a10 a11 a12 a30 a31 a32) * a23 + ((D3 a00 a01 a02 a10 a11 a12 a20 a21 a22) * a33 + 0)))]] = _
  rw [scal_eq4]
  rw [adj4r00 a00 a01 a02 a03 a10 a11 a12 a13 a20 a21 a22 a23 a30 a31 a32 a33, adj4r01 a00 a01 a02 a03 a10 a11 a12 a13 a20 a21 a22 a23 a30 a31 a32 a33, adj4r02 a00 a01 a02 a03 a10 a11 a12 a13 a20 a21 a22 a23 a30 a31 a32 a33, adj4r03 a00 a01 a02 a03 a10 a11 a12 a13 a20 a21 a22 a23 a30 a31 a32 a33, adj4r10 a00 a01 a02 a03 a10 a11 a12 a13 a20 a21 a22 a23 a30 a31 a32 a33, adj4r11 a00 a01 a02 a03 a10 a11 a12 a13 a20 a21 a22 a23 a30 a31 a32 a33, adj4r12 a00 a01 a02 a03 a10 a11 a12 a13 a20 a21 a22 a23 a30 a31 a32 a33, adj4r13 a00 a01 a02 a03 a10 a11 a12 a13 a20 a21 a22 a23 a30 a31 a32 a33, adj4r20 a00 a01 a02 a03 a10 a11 a12 a13 a20 a21 a22 a23 a30 a31 a32 a33, adj4r21 a00 a01 a02 a03 a10 a11 a12 a13 a20 a21 a22 a23 a30 a31 a32 a33, adj4r22 a00 a01 a02 a03 a10 a11 a12 a13 a20 a21 a22 a23 a30 a31 a32 a33, adj4r23 a00 a01 a02 a03 a10 a11 a12 a13 a20 a21 a22 a23 a30 a31 a32 a33, adj4r30 a00 a01 a02 a03 a10 a11 a12 a13 a20 a21 a22 a23 a30 a31 a32 a33, adj4r31 a00 a01 a02 a03 a10 a11 a12 a13 a20 a21 a22 a23 a30 a31 a32 a33, adj4r32 a00 a01 a02 a03 a10 a11 a12 a13 a20 a21 a22 a23 a30 a31 a32 a33, adj4r33 a00 a01 a02 a03 a10 a11 a12 a13 a20 a21 a22 a23 a30 a31 a32 a33]

end
end K39
namespace K39
open PySem PySem.Spec PyProof.Rows L2 Gm
open C8 (Cal Met Mak pe_c pe_mt pe_mt0 pe_mk)
section
variable {P : Program} {w : World} {K : PySem.W.Frag} {mg : Str → Option Value} {base : Heap}
/-! ### what the law wants of determinants -/
theorem sz0 {m : List (List Int)} (h : Sz 0 m) : m = [] := List.eq_nil_of_length_eq_zero h.len
theorem mulM_sz {n : Nat} {a b : List (List Int)} (h : a.length = n) : Sz n (mulM a b n) := ⟨(mulM_len ..).trans h, mulM_row⟩
theorem transp_sz {n : Nat} {m : List (List Int)} (h : m.length = n) : Sz n (transp m n) := ⟨transp_len .., fun r hr => (transp_row r hr).trans h⟩
theorem det_mul {n : Nat} {a b : List (List Int)} (hn : n ≤ 4) (ha : Sz n a) (hb : Sz n b) : detL n (mulM a b n) = detL n a * detL n b := by
  match n, hn, ha, hb with
  | 0, _, _, _ => rfl
  | 1, _, ha, hb =>
    obtain ⟨x, rfl⟩ := sz1 ha
    obtain ⟨y, rfl⟩ := sz1 hb
    show detL 1 [[x * y + 0]] = _
    rw [detL1, detL1, detL1, Int.add_zero]
  | 2, _, ha, hb =>
    obtain ⟨_, _, _, _, rfl⟩ := sz2 ha
    obtain ⟨_, _, _, _, rfl⟩ := sz2 hb
    rw [mul_eq2, detL2, detL2, detL2, mulD2]
  | 3, _, ha, hb =>
    obtain ⟨_, _, _, _, _, _, _, _, _, rfl⟩ := sz3 ha
    obtain ⟨_, _, _, _, _, _, _, _, _, rfl⟩ := sz3 hb
    rw [mul_eq3, detL3, detL3, detL3, mulD3]
  | 4, _, ha, hb =>
    obtain ⟨_, _, _, _, _, _, _, _, _, _, _, _, _, _, _, _, rfl⟩ := sz4 ha
    obtain ⟨_, _, _, _, _, _, _, _, _, _, _, _, _, _, _, _, rfl⟩ := sz4 hb
    rw [mul_eq4, detL4, detL4, detL4, mulD4]
theorem det_tr {n : Nat} {m : List (List Int)} (hn : n ≤ 4) (h : Sz n m) : detL n (transp m n) = detL n m := by
  match n, hn, h with
  | 0, _, _ => rfl
  | 1, _, h =>
    obtain ⟨x, rfl⟩ := sz1 h
    rfl
  | 2, _, h =>
    obtain ⟨_, _, _, _, rfl⟩ := sz2 h
    rw [tr_eq2, detL2, detL2, trD2]
  | 3, _, h =>
    obtain ⟨_, _, _, _, _, _, _, _, _, rfl⟩ := sz3 h
    rw [tr_eq3, detL3, detL3, trD3]
  | 4, _, h =>
    obtain ⟨_, _, _, _, _, _, _, _, _, _, _, _, _, _, _, _, rfl⟩ := sz4 h
    rw [tr_eq4, detL4, detL4, trD4]
theorem mul_due {n : Nat} {m : List (List Int)} (hn : n ≤ 4) (h : Sz n m) : mulM m (dueM n m) n = scalM n (detL n m) := by
  match n, hn, h with
  | 0, _, h =>
    cases sz0 h
    rfl
  | 1, _, h =>
    obtain ⟨x, rfl⟩ := sz1 h
    show [[x * (sgn 0 * 1) + 0]] = [[detL 1 [[x]] * 1]]
    rw [detL1, sgn_even (show 0 % 2 = 0 from rfl), Int.add_zero, Int.one_mul]
  | 2, _, h =>
    obtain ⟨_, _, _, _, rfl⟩ := sz2 h
    rw [due_eq2, detL2, adjM2l]
  | 3, _, h =>
    obtain ⟨_, _, _, _, _, _, _, _, _, rfl⟩ := sz3 h
    rw [due_eq3, detL3, adjM3l]
  | 4, _, h =>
    obtain ⟨_, _, _, _, _, _, _, _, _, _, _, _, _, _, _, _, rfl⟩ := sz4 h
    rw [due_eq4, detL4, adjM4l]
theorem due_mul {n : Nat} {m : List (List Int)} (hn : n ≤ 4) (h : Sz n m) : mulM (dueM n m) m n = scalM n (detL n m) := by
  match n, hn, h with
  | 0, _, h =>
    cases sz0 h
    rfl
  | 1, _, h =>
    obtain ⟨x, rfl⟩ := sz1 h
    show [[(sgn 0 * 1) * x + 0]] = [[detL 1 [[x]] * 1]]
    rw [detL1, sgn_even (show 0 % 2 = 0 from rfl), Int.add_zero, Int.one_mul, Int.one_mul, Int.mul_one]
  | 2, _, h =>
    obtain ⟨_, _, _, _, rfl⟩ := sz2 h
    rw [due_eq2, detL2, adjM2r]
  | 3, _, h =>
    obtain ⟨_, _, _, _, _, _, _, _, _, rfl⟩ := sz3 h
    rw [due_eq3, detL3, adjM3r]
  | 4, _, h =>
    obtain ⟨_, _, _, _, _, _, _, _, _, _, _, _, _, _, _, _, rfl⟩ := sz4 h
    rw [due_eq4, detL4, adjM4r]
theorem adj_due {n B : Nat} {m : List (List Int)} (hn : n ≤ 4) (h : Sq n B m) : adjM (n - 1) m = dueM n m := by
  unfold adjM dueM
  rw [h.len]
  refine List.map_congr_left fun i hi => List.map_congr_left fun k hk => ?_
  have hi' := List.mem_range.mp hi
  have hk' := List.mem_range.mp hk
  match n, hn, h, hi', hk' with
  | n + 1, hn, h, hi', hk' =>
    show sminor n m k i = sgn (i + k) * detL n (cutM m k i)
    unfold sminor
    rw [bare_det (by omega) (cutM_sq h hk' hi').sz]
    by_cases e : (k + i) % 2 = 1
    · rw [if_pos e, sgn_odd (by omega)]
      omega
    · rw [if_neg e, sgn_even (by omega)]
      omega
/-- the items of the adjugate -/
theorem due_bits {n B : Nat} {m : List (List Int)} (hn : n ≤ 4) (hB : B ≤ 1200000) (h : Sq n B m) : ∀ r ∈ dueM n m, Bits 5000000 r := by
  intro r hr x hx
  unfold dueM at hr
  obtain ⟨i, hi, rfl⟩ := List.mem_map.mp hr
  obtain ⟨k, hk, rfl⟩ := List.mem_map.mp hx
  have hi' := List.mem_range.mp hi
  have hk' := List.mem_range.mp hk
  match n, hn, h, hi', hk' with
  | n + 1, hn, h, hi', hk' =>
    show (sgn (i + k) * detL n (cutM m k i)).natAbs < 2 ^ 5000000
    have h1 : (sgn (i + k)).natAbs = 1 := by
      unfold sgn
      omega
    rw [Int.natAbs_mul, h1, Nat.one_mul]
    refine Nat.lt_of_lt_of_le (detL_le (by omega) (cutM_sq h hk' hi')) (Nat.pow_le_pow_right (by decide) ?_)
    have : n * (B + 8) ≤ 3 * (1200000 + 8) := Nat.mul_le_mul (by omega) (by omega)
    omega
theorem due_len (n : Nat) (m : List (List Int)) : (dueM n m).length = n := by
  unfold dueM
  rw [List.length_map, List.length_range]
theorem due_row {n : Nat} {m : List (List Int)} : ∀ r ∈ dueM n m, r.length = n := fun r hr => by
  unfold dueM at hr
  obtain ⟨i, _, rfl⟩ := List.mem_map.mp hr
  rw [List.length_map, List.length_range]

end
end K39
namespace K39
open PySem PySem.Spec PyProof.Rows L2 Gm
open C8 (Cal Met Mak pe_c pe_mt pe_mt0 pe_mk)
section
variable {P : Program} {w : World} {K : PySem.W.Frag} {mg : Str → Option Value} {base : Heap}
theorem paired_take {α β : Type} {F : α → β → Prop} : ∀ {xs : List α} {ys : List β} (k : Nat), Paired F xs ys → Paired F (xs.take k) (ys.take k)
  | _, _, _, .nil => by simp only [List.take_nil]; exact .nil
  | _, _, 0, .cons _ _ => by simp only [List.take_zero]; exact .nil
  | _, _, k + 1, .cons r t => by simp only [List.take_succ_cons]; exact .cons r (paired_take k t)
theorem paired_drop {α β : Type} {F : α → β → Prop} : ∀ {xs : List α} {ys : List β} (k : Nat), Paired F xs ys → Paired F (xs.drop k) (ys.drop k)
  | _, _, _, .nil => by simp only [List.drop_nil]; exact .nil
  | _, _, 0, .cons r t => .cons r t
  | _, _, k + 1, .cons r t => by simp only [List.drop_succ_cons]; exact paired_drop k t

end
end K39
namespace K39
open PySem PySem.Spec PyProof.Rows L2 Gm
open C8 (Cal Met Mak pe_c pe_mt pe_mt0 pe_mk)
section
variable {P : Program} {w : World} {K : PySem.W.Frag} {mg : Str → Option Value} {base : Heap}
/-! ### _law_minor, _law_norm -/
def upL (m : List (List Int)) (s : Nat) : List (List Int) := (m.take s).map fun r => r.take s
theorem upL_sq {n B s : Nat} {m : List (List Int)} (h : Sq n B m) (hs : s ≤ n) : Sq s B (upL m s) := by
  refine ⟨by unfold upL; rw [List.length_map, List.length_take, h.len]; omega, fun r hr => ?_, fun r hr => ?_⟩
  · obtain ⟨r', hr', rfl⟩ := List.mem_map.mp hr
    rw [List.length_take, h.row r' (List.mem_of_mem_take hr')]
    omega
  · obtain ⟨r', hr', rfl⟩ := List.mem_map.mp hr
    exact fun x hx => h.bits r' (List.mem_of_mem_take hr') x (List.mem_of_mem_take hx)

end
end K39
namespace K39
open PySem PySem.Spec PyProof.Rows L2 Gm
open C8 (Cal Met Mak pe_c pe_mt pe_mt0 pe_mk)
section
variable {P : Program} {w : World} {K : PySem.W.Frag} {mg : Str → Option Value} {base : Heap}
theorem maxK {X : Cx} (K : PySem.W.Frag) (hK : X.K = K) (hc : X.calm = true) : CallR X (.builtin "max") (rMax K) := by subst hK; exact cr_max hc
theorem lst_not {K : PySem.W.Frag} {C : Addr} : PySem.W.subIn K (.type "list") (.ref C) = some false := by
  have e : fastBuiltinMro "list" = some [.type "list", .type "object"] := by decide +kernel
  show (fastBuiltinMro "list").map (·.contains (.ref C)) = some false
  rw [e] <;> rfl
theorem non_not {K : PySem.W.Frag} {C : Addr} : PySem.W.subIn K (.type "NoneType") (.ref C) = some false := by
  have e : fastBuiltinMro "NoneType" = some [.type "NoneType", .type "object"] := by decide +kernel
  show (fastBuiltinMro "NoneType").map (·.contains (.ref C)) = some false
  rw [e] <;> rfl
/-- isinstance of a value of a built-in type, asked for an own class -/
theorem kit_own {K : PySem.W.Frag} {C : Addr} {n : String} (hc : PySem.W.isClsIn K C = true) (ht : PySem.W.typeIn K (.ref C) = some (.type "type")) (h : PySem.W.subIn K (.type n) (.ref C) = some false) : PySem.W.kitOne K (.type n) (.ref C) = some false := by
  show (if (Value.type n == Value.ref C) = true then some true else if ((PySem.W.clsIn K C).isSome && PySem.W.typeIn K (.ref C) == some (.type "type")) = true then PySem.W.subIn K (.type n) (.ref C) else none) = some false
  have e2 : ((PySem.W.clsIn K C).isSome && PySem.W.typeIn K (.ref C) == some (.type "type")) = true := by
    have e' : (PySem.W.clsIn K C).isSome = true := hc
    rw [e', ht] <;> rfl
  rw [if_neg (by simp), if_pos e2]
  exact h
theorem kit_self {K : PySem.W.Frag} {C : Addr} : PySem.W.kitOne K (.ref C) (.ref C) = some true := by
  unfold PySem.W.kitOne
  rw [if_pos (beq_self_eq_true _)]
/-! ### content -/
def gcdL (ns : List Int) : Nat := ns.foldl (fun g z => Nat.gcd g z.natAbs) 0
theorem gcdL_take {ns : List Int} {i : Nat} {z : Int} (h : ns[i]? = some z) : gcdL (ns.take (i + 1)) = Nat.gcd (gcdL (ns.take i)) z.natAbs := by
  unfold gcdL
  rw [List.take_add_one, h, List.foldl_append]
  rfl
def sp_content (K : PySem.W.Frag) : Sp := fun vs H Q _ => ∃ (a : Addr) (ns : List Int), vs = [.ref a] ∧ Gm.Seq K H a (ns.map V.int) ∧ ns.length ≤ 1000 ∧ ∀ H', Same H H' → Q (.int (gcdL ns : Nat)) H'
def posM (n : Nat) (m : List (List Int)) : Bool := (List.range n).all fun k => decide (0 < detL (k + 1) (upL m (k + 1)))
def sp_is_positive (K : PySem.W.Frag) : Sp := fun vs H Q _ => ∃ (v : V) (m : List (List Int)) (n B : Nat), vs = [v] ∧ TRows K H v m ∧ Sq n B m ∧ n ≤ 4 ∧ B ≤ 1000 ∧ ∀ H', Same H H' → Q (.bl (posM n m)) H'
theorem ok_is_positive (T : Top K mg) (hN : base.NoSeer) (hT : P.given.tree = none) : FnOk P w K mg base CX0 43 T.a_is_positive T.d_is_positive ["rows"] (sp_is_positive K) := by
  refine T.F_is_positive.ok sc_is_positive (fun vs H Q E h => ?_) (fun cdv A outer s H vs Q E hr h => ?_)
  · obtain ⟨v, m, n, B, rfl, _⟩ := h
    rfl
  · obtain ⟨v, m, n, B, rfl, ⟨a, ws, rfl, hs, hp⟩, sq, hn, hB, q⟩ := h
    have lw := Paired.length hp
    have lm := sq.len
    refine ⟨_, (pss_cons (ps_set (i := 1) sc_is_positive.nd rfl (by first | exact .inl rfl | exact .inr rfl) (pe_callTy cr_range2 (by rfl) T.z_range (by decide +kernel) (pa_cons pe_int (pa_cons (pe_op op_add (pe_callB (lenS K rfl) (by rfl) T.z_len (by decide +kernel) (pa_cons (pv 0) pa_nil)) pe_int) pa_nil))))
      (pss_one (ps_ret (pe_callB (allK K rfl rfl) (by rfl) T.z_all (by decide +kernel) (pa_cons (pe_lc (own := [("k", 2)]) (g := (gName 2)) (by rfl) sc_is_positive.nd (pi_rngv (pv 1)) ((by show BlkOk ["rows", "sizes", "k", "row"] (defScope s_is_positive) _ _; exact blkOk_by (by decide +kernel))) (fun _ _ _ _ _ => (pg_name (i := 2) sc_is_positive.nd rfl (by first | exact .inl rfl | exact .inr rfl))) (fun _ _ _ _ _ => pts_nil) (fun _ _ _ _ _ => (pe_cmpR op_gt (pe_c (cal_determinant_of T hN hT) hr (by decide) (by rfl) (pa_cons (pe_lc (own := [("row", 3)]) (g := (gName 3)) (by rfl) sc_is_positive.nd (piS K rfl (pe_slice (slTK K rfl) (pv 0) po_none (po_some (pv 2)))) ((by show BlkOk ["rows", "sizes", "k", "row"] (relS _ (defScope s_is_positive)) _ _; exact blkOk_by (by decide +kernel))) (fun _ _ _ _ _ => (pg_name (i := 3) sc_is_positive.nd rfl (by first | exact .inl rfl | exact .inr rfl))) (fun _ _ _ _ _ => pts_nil) (fun _ _ _ _ _ => (pe_slice (slTK K rfl) (pv 3) po_none (po_some (pv 2))))) pa_nil)) pe_int (nomark _)))) pa_nil))))), ?_⟩
    refine ⟨_, rfl, a, _, rfl, .inr hs, _, _, rfl, rfl, 1, _, rfl, fun p np => ?_⟩
    have sP := same_upd (o := .rng 1 ((ws.length : Int) + 1)) np
    refine ⟨_, rfl, p, 1, _, rfl, upd_same, ⟨by omega, by omega, by omega, by omega⟩, fun D hD => ?_⟩
    generalize upd H p (.rng 1 ((ws.length : Int) + 1)) = H1 at sP hD ⊢
    refine lc_all walk_range hD (by omega) (fun _ _ => trivial) (fun i v _ => v = V.bl (decide (0 < detL (i + 1) (upL m (i + 1))))) (fun _ _ _ _ _ _ _ h => h) ?_ gm_name ?_
    · rintro i x H4 H4' acc Ko hi s4 eD ⟨rfl, rfl⟩ kc
      have hi' : i < n := by omega
      have kk1 : V.int (1 + (i : Int)) = V.int ((i + 1 : Nat) : Int) := congrArg V.int (by omega)
      have sH := sP.trans s4
      refine ⟨rfl, ?_⟩
      refine ⟨_, rfl, _, rfl, ((i + 1 : Nat) : Int), kk1, ?_⟩
      refine (show rSlA K (.ref a) none (some ((i + 1 : Nat) : Int)) H4' _ from ?_)
      refine slA_take (Same.seqT sH hs) (i + 1) fun p1 H5 s5 t5 => ?_
      have hpt := paired_take (i + 1) (L2.Paired.mapP hp fun _ _ => TRow.same (sH.trans s5))
      have lwt : (ws.take (i + 1)).length = i + 1 := by rw [List.length_take]; omega
      refine ⟨p1, _, rfl, .inr t5, fun J G W hG D2 hD2 => ?_⟩
      refine lc_all W hD2 (by omega) (fun H6 s6 => hG H6 fun b _ o => s6 b o) (fun j v H6 => ∃ r, (upL m (i + 1))[j]? = some r ∧ TRow K H6 v r) (fun j v H6 H7 acc e o ⟨r, er, h⟩ => ⟨r, er, TRow.off e o h⟩) ?_ gm_name ?_
      · rintro j x H6 H6' acc2 Ko2 hj s6 eD2 ⟨rfl, ex⟩ k2
        obtain ⟨r, er, c, rfl, hc⟩ := Paired.getR hpt ex
        refine ⟨rfl, ?_⟩
        refine ⟨_, rfl, _, rfl, ((i + 1 : Nat) : Int), kk1, ?_⟩
        refine (show rSlA K (.ref c) none (some ((i + 1 : Nat) : Int)) H6' _ from ?_)
        refine slA_take (Same.seqT s6 hc) (i + 1) fun p2 H7 s7 t7 => ?_
        refine k2 _ _ s7 ⟨r.take (i + 1), by unfold upL; rw [List.getElem?_map, er]; rfl, p2, rfl, ?_⟩
        rw [List.map_take]
        exact t7
      · intro H6 l s6 eD2 hpl
        have sqU := upL_sq sq (s := i + 1) (by omega)
        have lup := sqU.len
        have hrows : IRows K H6 (.ref D2) (upL m (i + 1)) := ⟨D2, l, rfl, .inl (.inl (.inl eD2)), L2.Paired.mapP (paired_at (m := upL m (i + 1)) (by omega) hpl) fun _ _ => TRow.row⟩
        refine ⟨.ref D2, _, i + 1, B, rfl, hrows, sqU, by omega, by omega, fun H7 s7 => ?_⟩
        rw [bare_det (by omega) sqU.sz]
        refine ⟨_, _, rfl, rfl, ?_⟩
        exact kc _ _ (s5.trans (s6.trans s7)) rfl
    · intro H4 l s4 eD hpl
      have el := bools_list (f := fun i => decide (0 < detL (i + 1) (upL m (i + 1)))) hpl
      subst el
      refine ⟨D, _, rfl, .inl (.inl eD), ?_⟩
      have e : (((List.range ((ws.length : Int) + 1 - 1).toNat).map fun i => decide (0 < detL (i + 1) (upL m (i + 1)))).all id) = posM n m := by
        rw [show ((ws.length : Int) + 1 - 1).toNat = n by omega]
        unfold posM
        rw [List.all_map]
        rfl
      rw [e]
      exact q _ (sP.trans s4)
theorem cal_is_positive (T : Top K mg) (hN : base.NoSeer) (hT : P.given.tree = none) : Cal P w K mg base 43 "is_positive" (sp_is_positive K) [] := ⟨⟨_, _, _, [], ok_is_positive T hN hT, T.g_is_positive, T.F_is_positive.kp, T.b_is_positive, .nil⟩⟩

end
end K39
namespace K39
open PySem PySem.Spec PyProof.Rows L2 Gm
open C8 (Cal Met Mak pe_c pe_mt pe_mt0 pe_mk)
section
variable {P : Program} {w : World} {K : PySem.W.Frag} {mg : Str → Option Value} {base : Heap}
theorem mak_Grid_N (T : Top K mg) (hN : base.NoSeer) (hT : P.given.tree = none) : Mak P w K mg base 3 "Grid" T.C_Grid (sp_Grid_init_N K T.C_Grid) [.non] := by
  obtain ⟨ds2, vN2, bN2⟩ := T.F_Grid_init.binds1 (ps := ["self", "rows", "width"]) 2 0 (by simp) rfl fun _ _ _ _ _ _ _ us its hl hi => match us, hl, its, hi with | [_, _], _, [_], _ => ⟨_, rfl, rfl⟩
  exact ⟨⟨_, _, _, _, T.mk_Grid, ok_Grid_init_N T hN hT, T.g_Grid, bN2, vN2⟩⟩
theorem make_gridN {K : PySem.W.Frag} {C x dx : Addr} {H1 : Hp} {v : V} {m : List (List Int)} {w : Nat} {Q : VK} {E : XK} (nx : H1 x = none) (nd : H1 dx = none) (hm : IRows K H1 v m) (h0 : 0 < m.length) (hl : m.length ≤ 1000) (hw : w ≤ 1000) (hrw : ∀ r ∈ m, r.length = w) (q : ∀ H', Same H1 H' → IsGrid K C H' (.ref x) m w → Q .non H') :
    sp_Grid_init_N K C [.ref x, v, .non] (upd (upd H1 dx (.own x)) x (.ins C dx [])) Q E := by
  have s0 : Same H1 (upd (upd H1 dx (.own x)) x (.ins C dx [])) := fun b o e => by
    rw [upd_ne (ne_of_none e nx), upd_ne (ne_of_none e nd)]
    exact e
  refine ⟨x, dx, v, m, w, rfl, upd_same, hm.same s0, h0, hl, hw, hrw, fun t H' o ho ht => ?_⟩
  exact q _ (fun b u e => o _ _ (ne_of_none e nx) (s0 _ _ e)) ⟨⟨x, dx, t, rfl, ho, ht⟩, hrw⟩
theorem ne_grid {K : PySem.W.Frag} {C : Addr} {H : Hp} {u v : V} {m : List (List Int)} {w : Nat} {Q : VK} (G1 : IsGrid K C H u m w) (G2 : IsGrid K C H v m w) (q : Q (.bl false) H) : rOwnNe C (sp_Grid_eq K C) L2.E0 u v H Q := by
  obtain ⟨⟨p1, d1, t1, rfl, h1, _⟩, _⟩ := id G1
  obtain ⟨⟨p2, d2, t2, rfl, h2, _⟩, _⟩ := id G2
  refine ⟨p1, p2, d1, d2, _, _, rfl, rfl, h1, h2, _, m, w, _, m, rfl, G1, .inl ⟨w, G2, _, rfl, ?_⟩⟩
  rw [show decide (m = m ∧ w = w) = true from decide_eq_true ⟨rfl, rfl⟩]
  exact q
/-! ### checked_gram of a list -/
theorem flat_len {n B : Nat} {m : List (List Int)} (sq : Sq n B m) (hn : n ≤ 4) : m.flatten.length ≤ 1000 := by
  have h : ∀ (l : List (List Int)), (∀ r ∈ l, r.length = n) → l.flatten.length = l.length * n := by
    intro l
    induction l with
    | nil => intro _; simp
    | cons a l ih =>
      intro h
      rw [List.flatten_cons, List.length_append, ih fun r hr => h r (List.mem_cons_of_mem _ hr), h a (List.mem_cons_self ..), List.length_cons, Nat.succ_mul]
      omega
  rw [h m sq.row, sq.len]
  have := Nat.mul_le_mul hn hn
  omega
/-- what a lattice's matrix must be -/
structure Gram (n : Nat) (m : List (List Int)) : Prop where
  sq : Sq n 10 m
  n1 : 0 < n
  n4 : n ≤ 4
  sym : transp m n = m
  pos : posM n m = true
def sp_checked_gram_L (K : PySem.W.Frag) (C : Addr) : Sp := fun vs H Q _ => ∃ (a : Addr) (ws : List V) (m : List (List Int)) (n : Nat), vs = [.ref a] ∧ SqL K H a ws ∧ Paired (IRow K H) ws m ∧ Gram n m ∧ ∀ g H', Same H H' → IsGrid K C H' g m n → Q g H'
theorem ok_checked_gram_L (T : Top K mg) (hN : base.NoSeer) (hT : P.given.tree = none) : FnOk P w K mg base CX0 44 T.a_checked_gram T.d_checked_gram ["gram"] (sp_checked_gram_L K T.C_Grid) := by
  refine T.F_checked_gram.ok sc_checked_gram (fun vs H Q E h => ?_) (fun cdv A outer s H vs Q E hr h => ?_)
  · obtain ⟨a, ws, m, n, rfl, _⟩ := h
    rfl
  · obtain ⟨a, ws, m, n, rfl, hs, hp, gm, q⟩ := h
    have lw := Paired.length hp
    have lm := gm.sq.len
    have hn4 := gm.n4
    have hn1 := gm.n1
    have tyL : TyX K H (.ref a) (.type "list") := by
      obtain ⟨n, hn, ht⟩ := seq_ty (.inl hs)
      rcases hs with (h | ⟨u, h⟩) | ⟨o, its, k, h, c, d, _⟩
      · exact .base (.lst h)
      · exact .base (.frz h)
      · exact .kList h c
    refine ⟨_, (pss_cons (ps_set (i := 1) sc_checked_gram.nd rfl (by first | exact .inl rfl | exact .inr rfl) (pe_ifExp (pt_val (pe_callB (isiK K rfl) (by rfl) T.z_isinstance (by decide +kernel) (pa_cons (pv 0) (pa_cons (pe_glob (by rfl) T.g_Grid (show RelV (.ref T.C_Grid) _ from rfl)) pa_nil)))) (fldK K rfl (pv 0) rfl) (pv 0)))
      (pss_cons (ps_if (PW.pt (pw_and (pt_val (pe_callB (isiTK K rfl) (by rfl) T.z_isinstance (by decide +kernel) (pa_cons (pv 1) (pa_cons (pe_tup (pa_cons (pe_bltn (v := .ty "list") (by rfl) T.z_list (by decide +kernel) rfl) (pa_cons (pe_bltn (v := .ty "tuple") (by rfl) T.z_tuple (by decide +kernel) rfl) pa_nil))) pa_nil)))) (pw_and1 (pt_cmpR op_gt (pe_callB (lenS K rfl) (by rfl) T.z_len (by decide +kernel) (pa_cons (pv 1) pa_nil)) (pe_glob (v := V.int 4) (by rfl) T.g_MOST_ROWS ⟨_, rfl⟩) (nomark _)))))
      (pss_one ps_never)
      pss_nil)
      (pss_cons (ps_set (i := 2) sc_checked_gram.nd rfl (by first | exact .inl rfl | exact .inr rfl) (pe_ifExp (pt_val (pe_callB (isiK K rfl) (by rfl) T.z_isinstance (by decide +kernel) (pa_cons (pv 0) (pa_cons (pe_glob (by rfl) T.g_Grid (show RelV (.ref T.C_Grid) _ from rfl)) pa_nil)))) (pv 0) (pe_mk (mak_Grid_N T hN hT) hr (by decide) (by rfl) (pa_cons (pv 0) pa_nil))))
      (pss_cons (ps_if (PW.pt (pw_or (pt_cmpR op_eq (pe_callB (lenS K rfl) (by rfl) T.z_len (by decide +kernel) (pa_cons (fldK K rfl (pv 2) rfl) pa_nil)) pe_int (nomark _)) (pw_or1 (pt_cmpR ((op_ownNe (E := L2.E0) T.km_Grid T.ne_Grid T.m_Grid_eq.at_ T.m_Grid_eq.fn (ok_Grid_eq T hN hT) (hr.mono (by decide)) T.b_Grid_eq (fun _ _ _ _ h => h.elim))) (pv 2) (pe_mt0 (met_Grid_transposed T hN hT) hr (by decide) (pv 2)) (nomark _)))))
      (pss_one ps_never)
      pss_nil)
      (pss_cons (ps_if (pt_cmpR op_gt (pe_callB (maxK K rfl rfl) (by rfl) T.z_max (by decide +kernel) (pa_cons (pe_lc2 (own := [("row", 3), ("item", 4)]) (vs1 := [4]) (g := (gName 3)) (g1 := (gName 4)) (by rfl) sc_checked_gram.nd (piT K rfl (fldK K rfl (pv 2) rfl)) (by show BlkOk ["gram", "rows", "grid", "row", "item"] (defScope s_checked_gram) _ _; exact blkOk_by (by decide +kernel)) (by decide) (fun _ _ _ _ _ => (pg_name (i := 3) sc_checked_gram.nd rfl (by first | exact .inl rfl | exact .inr rfl))) (fun _ _ _ _ _ => pts_nil) (fun _ _ _ _ _ => (piT K rfl (pv 3))) (fun _ _ _ _ _ => (pg_name (i := 4) sc_checked_gram.nd rfl (by first | exact .inl rfl | exact .inr rfl))) (fun _ _ _ _ _ => pts_nil) (fun _ _ _ _ _ => (pe_callB (call_abs) (by rfl) T.z_abs (by decide +kernel) (pa_cons (pv 4) pa_nil)))) pa_nil)) (pe_glob (v := V.int 10000) (by rfl) T.g_MOST ⟨_, rfl⟩) (nomark _))
      (pss_one ps_never)
      pss_nil)
      (pss_cons (ps_if (pt_not (pt_val (pe_c (cal_is_positive T hN hT) hr (by decide) (by rfl) (pa_cons (fldK K rfl (pv 2) rfl) pa_nil))))
      (pss_one ps_never)
      pss_nil)
      (pss_one (ps_ret (pv 2))))))))), ?_⟩
    refine ⟨_, rfl, .ref a, .ref T.C_Grid, _, _, false, rfl, .own _, tyL, kit_own T.ic_Grid T.ty_Grid lst_not, false, rfl, ?_⟩
    refine iteF ?_
    refine ⟨_, rfl, ?_⟩
    -- isinstance(rows, (list, tuple)) and len(rows) > 4
    refine ⟨_, rfl, by show 2 ≤ sizeLine; decide, fun tp np => ?_⟩
    have s1 := same_upd (o := .tup [.ty "list", .ty "tuple"]) np
    have hs1 := Same.seq s1 hs
    have tyL1 : TyX K (upd H tp (.tup [.ty "list", .ty "tuple"])) (.ref a) (.type "list") := by
      rcases hs1 with (h | ⟨u, h⟩) | ⟨o, its, k, h, c, d, _⟩
      · exact .base (.lst h)
      · exact .base (.frz h)
      · exact .kList h c
    refine ⟨.ref a, tp, [.ty "list", .ty "tuple"], _, [.type "list", .type "tuple"], true, rfl, upd_same, .cons (.ty _) (.cons (.ty _) .nil), tyL1, kit_lt (.inl rfl), true, rfl, ?_⟩
    refine iteT ?_
    have hp1 := L2.Paired.mapP hp fun _ _ => IRow.same s1
    generalize upd H tp (.tup [.ty "list", .ty "tuple"]) = H1 at s1 hs1 tyL1 hp1 ⊢
    refine ⟨_, rfl, a, _, rfl, .inl hs1, _, _, rfl, rfl, _, rfl, ?_⟩
    rw [decide_eq_false (show ¬ (4 : Int) < (ws.length : Int) by omega)]
    refine iteF ?_
    -- grid
    refine ⟨_, rfl, .ref a, .ref T.C_Grid, _, _, false, rfl, .own _, tyL1, kit_own T.ic_Grid T.ty_Grid lst_not, false, rfl, ?_⟩
    refine iteF ?_
    refine ⟨_, rfl, ?_⟩
    intro gx gd ngx ngd nge
    refine make_gridN ngx ngd (m := m) ⟨a, ws, rfl, .inl hs1, hp1⟩ (by omega) (by omega) (w := n) (by omega) gm.sq.row fun H2 s2 G2 => ⟨rfl, ?_⟩
    obtain ⟨⟨p, dx, t, ep, ho, ht⟩, hrw⟩ := id G2
    cases ep
    obtain ⟨qt, wt, rfl, hq, hpt⟩ := id ht
    have lwt := Paired.length hpt
    -- len(grid.rows) == 0 or grid != grid.transposed()
    refine ⟨_, rfl, gx, _, dx, _, _, rfl, ho, T.cl_Grid, T.n_rows, flds_rows _ _, qt, _, rfl, .inr hq, rfl, _, rfl, ?_⟩
    rw [show decide (V.int (wt.length : Int) = V.int 0) = false from decide_eq_false fun z => by have := V.int.inj z; omega]
    refine iteF ?_
    refine ⟨_, rfl, _, rfl, gx, dx, _, rfl, ho, m_transposed _ _, _, m, n, rfl, G2, by omega, by omega, fun g3 H3 s3 G3 => ?_⟩
    rw [gm.sym, lm] at G3
    refine ne_grid (IsGrid.same s3 G2) G3 ⟨_, rfl, ?_⟩
    refine iteF ?_
    -- max
    have G23 := IsGrid.same s3 G2
    obtain ⟨⟨p, dx3, t3, ep, ho3, ht3⟩, _⟩ := id G23
    cases ep
    obtain ⟨qt3, wt3, rfl, hq3, hpt3⟩ := id ht3
    refine ⟨_, rfl, gx, _, dx3, _, _, rfl, ho3, T.cl_Grid, T.n_rows, flds_rows _ _, qt3, rfl, ⟨_, hq3⟩, fun D hD => ?_⟩
    refine lc2_rows (j := 3) (j1 := 4) (vs := [3, 4]) (vs1 := [4]) (te := tCB (fun xs H Q => ∃ i, xs = [V.int i] ∧ Q (V.int (if i < 0 then -i else i)) H) (tCons (tVar 4) tNil)) (f := fun z => if z < 0 then -z else z) hq3 hD hpt3 (flat_len gm.sq hn4) ?_ ?_ ?_ ?_ ?_
    · intro _; rfl
    · intro _ _; rfl
    · intro _; rfl
    · exact fun z x H Ko k => ⟨_, rfl, z, rfl, k⟩
    intro H4 s4 eD
    have lfl : 0 < (m.flatten.map fun z => if z < 0 then -z else z).length := by
      rw [List.length_map]
      cases m with
      | nil => rw [List.length_nil] at lm; omega
      | cons r m =>
        have := gm.sq.row r (List.mem_cons_self ..)
        rw [List.flatten_cons, List.length_append]
        omega
    refine ⟨D, _, rfl, .inl (.inl eD), lfl, fun mx hmx _ => ?_⟩
    have hmx2 : mx ≤ 10000 := by
      obtain ⟨z, hz, rfl⟩ := List.mem_map.mp hmx
      obtain ⟨r, hr', hzr⟩ := List.mem_flatten.mp hz
      have hb : z.natAbs < 1024 := gm.sq.bits r hr' z hzr
      split <;> omega
    refine ⟨_, _, rfl, rfl, _, rfl, ?_⟩
    rw [decide_eq_false (show ¬ (10000 : Int) < mx by omega)]
    refine iteF ?_
    -- is_positive
    have G4 := IsGrid.same s4 G23
    obtain ⟨⟨p, dx4, t4, ep, ho4, ht4⟩, _⟩ := id G4
    cases ep
    refine ⟨_, rfl, gx, _, dx4, _, _, rfl, ho4, T.cl_Grid, T.n_rows, flds_rows _ _, t4, m, n, 10, rfl, ht4, gm.sq, hn4, by decide, fun H5 s5 => ?_⟩
    rw [gm.pos]
    refine ⟨_, rfl, ?_⟩
    refine iteF ?_
    exact ⟨_, rfl, q _ H5 (s1.trans (s2.trans (s3.trans (s4.trans s5)))) (IsGrid.same s5 G4)⟩
theorem cal_checked_gram (T : Top K mg) (hN : base.NoSeer) (hT : P.given.tree = none) : Cal P w K mg base 44 "checked_gram" (sp_checked_gram_L K T.C_Grid) [] := ⟨⟨_, _, _, [], ok_checked_gram_L T hN hT, T.g_checked_gram, T.F_checked_gram.kp, T.b_checked_gram, .nil⟩⟩
/-! ### Lattice -/
def fldG (g : V) : List (Str × V) := putF "gram" g []
theorem fldG_gram (g : V) : (fldG g).lookup ("gram" : Str) = some g := by unfold fldG; rw [lookup_putF, if_pos rfl]
theorem fldG_no (g : V) {m : Str} (h : ¬ m = "gram") : (fldG g).lookup m = none := by
  unfold fldG
  rw [lookup_putF, if_neg h]
  rfl
structure IsLat (K : PySem.W.Frag) (CG CL : Addr) (H : Hp) (v : V) (m : List (List Int)) (n : Nat) : Prop where
  obj : ∃ p dx g, v = .ref p ∧ H p = some (.ins CL dx (fldG g)) ∧ IsGrid K CG H g m n
  gm : Gram n m
theorem IsLat.same {K : PySem.W.Frag} {CG CL : Addr} {H H' : Hp} {v : V} {m : List (List Int)} {n : Nat} (s : Same H H') (h : IsLat K CG CL H v m n) : IsLat K CG CL H' v m n :=
  let ⟨p, dx, g, e, ho, G⟩ := h.obj; ⟨⟨p, dx, g, e, s _ _ ho, IsGrid.same s G⟩, h.gm⟩
def sp_Lattice_init (K : PySem.W.Frag) (CG CL : Addr) : Sp := fun vs H Q _ => ∃ (p dx a : Addr) (ws : List V) (m : List (List Int)) (n : Nat), vs = [.ref p, .ref a] ∧ H p = some (.ins CL dx []) ∧ SqL K H a ws ∧ Paired (IRow K H) ws m ∧ Gram n m ∧ ∀ g H', Off p H H' → H' p = some (.ins CL dx (fldG g)) → IsGrid K CG H' g m n → Q .non H'
theorem grid_off {K : PySem.W.Frag} {C CL p dx : Addr} {H H' : Hp} {v : V} {m : List (List Int)} {w : Nat} (e : H p = some (.ins CL dx [])) (o : Off p H H') (h : IsGrid K C H v m w) : IsGrid K C H' v m w := by
  obtain ⟨⟨q, dq, t, eq, ho, ht⟩, hw⟩ := h
  have hqp : q ≠ p := by
    rintro rfl
    rw [e] at ho
    have h1 := flds_rows t w
    injection ho with ho
    injection ho with _ _ h2
    rw [← h2] at h1
    cases h1
  exact ⟨⟨q, dq, t, eq, o _ _ hqp ho, trows_off e o ht⟩, hw⟩
theorem ok_Lattice_init (T : Top K mg) (hN : base.NoSeer) (hT : P.given.tree = none) : FnOk P w K mg base CX0 45 T.a_Lattice_init T.d_Lattice_init ["self", "gram"] (sp_Lattice_init K T.C_Grid T.C_Lattice) := by
  refine T.F_Lattice_init.ok sc_Lattice_init (fun vs H Q E h => ?_) (fun cdv A outer s H vs Q E hr h => ?_)
  · obtain ⟨p, dx, a, ws, m, n, rfl, _⟩ := h
    rfl
  · obtain ⟨p, dx, a, ws, m, n, rfl, hp, hs, hpr, gm, q⟩ := h
    refine ⟨_, (pss_one (ps_fld (pv 0) (pe_c (cal_checked_gram T hN hT) hr (by decide) (by rfl) (pa_cons (pv 1) pa_nil)) rfl)), ?_⟩
    refine ⟨_, rfl, a, ws, m, n, rfl, hs, hpr, gm, fun g H1 s1 G1 => ?_⟩
    have hp1 := s1 _ _ hp
    refine ⟨_, rfl, p, T.C_Lattice, dx, [], rfl, hp1, T.cl_Lattice, T.n_gram, by show 0 < 1000; decide, ?_⟩
    exact q g _ (fun b o n e => by rw [upd_ne n]; exact s1 _ _ e) upd_same (grid_off hp1 Off.upd G1)
theorem mak_Lattice (T : Top K mg) (hN : base.NoSeer) (hT : P.given.tree = none) : Mak P w K mg base 45 "Lattice" T.C_Lattice (sp_Lattice_init K T.C_Grid T.C_Lattice) [] := ⟨⟨_, _, _, [], T.mk_Lattice, ok_Lattice_init T hN hT, T.g_Lattice, T.b_Lattice_init, .nil⟩⟩
theorem make_lat {K : PySem.W.Frag} {CG CL x dx a : Addr} {ws : List V} {H1 : Hp} {m : List (List Int)} {n : Nat} {Q : VK} {E : XK} (nx : H1 x = none) (nd : H1 dx = none) (hs : SqL K H1 a ws) (hp : Paired (IRow K H1) ws m) (gm : Gram n m) (q : ∀ H', Same H1 H' → IsLat K CG CL H' (.ref x) m n → Q .non H') :
    sp_Lattice_init K CG CL [.ref x, .ref a] (upd (upd H1 dx (.own x)) x (.ins CL dx [])) Q E := by
  have s0 : Same H1 (upd (upd H1 dx (.own x)) x (.ins CL dx [])) := fun b o e => by
    rw [upd_ne (ne_of_none e nx), upd_ne (ne_of_none e nd)]
    exact e
  refine ⟨x, dx, a, ws, m, n, rfl, upd_same, Same.seq s0 hs, L2.Paired.mapP hp fun _ _ => IRow.same s0, gm, fun g H' o ho G => ?_⟩
  exact q _ (fun b u e => o _ _ (ne_of_none e nx) (s0 _ _ e)) ⟨⟨x, dx, g, rfl, ho, G⟩, gm⟩
def sp_Lattice_rank (K : PySem.W.Frag) (CG CL : Addr) : Sp := fun vs H Q _ => ∃ v m n, vs = [v] ∧ IsLat K CG CL H v m n ∧ Q (.int n) H
theorem ok_Lattice_rank (T : Top K mg) (hN : base.NoSeer) (hT : P.given.tree = none) : FnOk P w K mg base CX0 1 T.a_Lattice_rank T.d_Lattice_rank ["self"] (sp_Lattice_rank K T.C_Grid T.C_Lattice) := by
  refine T.F_Lattice_rank.ok sc_Lattice_rank (fun vs H Q E h => ?_) (fun cdv A outer s H vs Q E hr h => ?_)
  · obtain ⟨v, m, n, rfl, _⟩ := h
    rfl
  · obtain ⟨v, m, n, rfl, L, q⟩ := h
    obtain ⟨p, dx, g, rfl, ho, G⟩ := L.obj
    obtain ⟨⟨pg, dg, t, rfl, hog, ht⟩, hrw⟩ := id G
    obtain ⟨qt, wt, rfl, hq, hpt⟩ := id ht
    have lwt := Paired.length hpt
    have lm := L.gm.sq.len
    refine ⟨_, (pss_one (ps_ret (pe_callB (lenS K rfl) (by rfl) T.z_len (by decide +kernel) (pa_cons (fldK K rfl (fldK K rfl (pv 0) rfl) rfl) pa_nil)))), ?_⟩
    refine ⟨_, rfl, p, T.C_Lattice, dx, _, _, rfl, ho, T.cl_Lattice, T.n_gram, fldG_gram _, pg, _, dg, _, _, rfl, hog, T.cl_Grid, T.n_rows, flds_rows _ _, qt, _, rfl, .inr hq, ?_⟩
    rw [lwt, lm]
    exact q
theorem met_Lattice_rank (T : Top K mg) (hN : base.NoSeer) (hT : P.given.tree = none) : Met P w K mg base 1 T.C_Lattice "rank" (sp_Lattice_rank K T.C_Grid T.C_Lattice) [] := ⟨⟨_, _, _, [], T.cl_Lattice, T.m_Lattice_rank, ok_Lattice_rank T hN hT, T.b_Lattice_rank, .nil⟩⟩
theorem l_rank (g : V) : (fldG g).lookup ("rank" : Str) = none := fldG_no g (by decide +kernel)
theorem l_determinant (g : V) : (fldG g).lookup ("determinant" : Str) = none := fldG_no g (by decide +kernel)
theorem l_content (g : V) : (fldG g).lookup ("content" : Str) = none := fldG_no g (by decide +kernel)
theorem l_is_even (g : V) : (fldG g).lookup ("is_even" : Str) = none := fldG_no g (by decide +kernel)
theorem l_product (g : V) : (fldG g).lookup ("product" : Str) = none := fldG_no g (by decide +kernel)
theorem l_norm (g : V) : (fldG g).lookup ("norm" : Str) = none := fldG_no g (by decide +kernel)
def sp_Lattice_determinant (K : PySem.W.Frag) (CG CL : Addr) : Sp := fun vs H Q _ => ∃ v m n, vs = [v] ∧ IsLat K CG CL H v m n ∧ ∀ H', Same H H' → Q (.int (detL n m)) H'
theorem ok_Lattice_determinant (T : Top K mg) (hN : base.NoSeer) (hT : P.given.tree = none) : FnOk P w K mg base CX0 44 T.a_Lattice_determinant T.d_Lattice_determinant ["self"] (sp_Lattice_determinant K T.C_Grid T.C_Lattice) := by
  refine T.F_Lattice_determinant.ok sc_Lattice_determinant (fun vs H Q E h => ?_) (fun cdv A outer s H vs Q E hr h => ?_)
  · obtain ⟨v, m, n, rfl, _⟩ := h
    rfl
  · obtain ⟨v, m, n, rfl, L, q⟩ := h
    obtain ⟨p, dx, g, rfl, ho, G⟩ := L.obj
    obtain ⟨⟨pg, dg, t, rfl, hog, ht⟩, hrw⟩ := id G
    have hn4 := L.gm.n4
    refine ⟨_, (pss_one (ps_ret (pe_mt0 (met_Grid_determinant T hN hT) hr (by decide) (fldK K rfl (pv 0) rfl)))), ?_⟩
    refine ⟨_, rfl, p, T.C_Lattice, dx, _, _, rfl, ho, T.cl_Lattice, T.n_gram, fldG_gram _, pg, dg, _, rfl, hog, m_determinant _ _, _, m, n, 10, rfl, G, L.gm.sq, by omega, by decide, fun H1 s1 => ?_⟩
    rw [bare_det hn4 L.gm.sq.sz]
    exact q _ s1
theorem met_Lattice_determinant (T : Top K mg) (hN : base.NoSeer) (hT : P.given.tree = none) : Met P w K mg base 44 T.C_Lattice "determinant" (sp_Lattice_determinant K T.C_Grid T.C_Lattice) [] := ⟨⟨_, _, _, [], T.cl_Lattice, T.m_Lattice_determinant, ok_Lattice_determinant T hN hT, T.b_Lattice_determinant, .nil⟩⟩
def sp_Lattice_content (K : PySem.W.Frag) (CG CL : Addr) : Sp := fun vs H Q _ => ∃ v m n, vs = [v] ∧ IsLat K CG CL H v m n ∧ ∀ H', Same H H' → Q (.int (gcdL m.flatten : Nat)) H'

end
end K39
namespace K39
open PySem PySem.Spec PyProof.Rows L2 Gm
open C8 (Cal Met Mak pe_c pe_mt pe_mt0 pe_mk)
section
variable {P : Program} {w : World} {K : PySem.W.Frag} {mg : Str → Option Value} {base : Heap}
def isI : V → Bool
  | .int _ => true
  | _ => false
def Flat (v : V) : Prop := (∃ i, v = .int i) ∨ (∃ b, v = .bl b) ∨ ∃ x, v = .str x
def sp_is_integer_any : Sp := fun vs H Q _ => ∃ v, vs = [v] ∧ Flat v ∧ Q (.bl (isI v)) H
theorem ok_is_integer_any (T : Top K mg) : FnOk P w K mg base CX0 1 T.a_is_integer T.d_is_integer ["value"] sp_is_integer_any := by
  refine T.F_is_integer.ok sc_is_integer (fun vs H Q E h => ?_) (fun cdv A outer s H vs Q E hr h => ?_)
  · obtain ⟨v, rfl, _⟩ := h
    rfl
  · obtain ⟨v, rfl, f, q⟩ := h
    refine ⟨_, (pss_one (ps_ret (pe_and (pe_callB (isiK K rfl) (by rfl) T.z_isinstance (by decide +kernel) (pa_cons (pv 0) (pa_cons (pe_bltn (v := .ty "int") (by rfl) T.z_int (by decide +kernel) rfl) pa_nil))) (pe_one (pe_not (pe_callB (isiK K rfl) (by rfl) T.z_isinstance (by decide +kernel) (pa_cons (pv 0) (pa_cons (pe_bltn (v := .ty "bool") (by rfl) T.z_bool (by decide +kernel) rfl) pa_nil)))))))), ?_⟩
    rcases f with ⟨i, rfl⟩ | ⟨b, rfl⟩ | ⟨x, rfl⟩
    · refine ⟨_, rfl, .int i, .ty "int", _, _, true, rfl, .ty "int", .base (.int i), kit_ty (by decide +kernel), true, rfl, iteT ?_⟩
      exact ⟨_, rfl, .int i, .ty "bool", _, _, false, rfl, .ty "bool", .base (.int i), kit_ty (by decide +kernel), false, rfl, q⟩
    · refine ⟨_, rfl, .bl b, .ty "int", _, _, true, rfl, .ty "int", .base (.bl b), kit_ty (by decide +kernel), true, rfl, iteT ?_⟩
      exact ⟨_, rfl, .bl b, .ty "bool", _, _, true, rfl, .ty "bool", .base (.bl b), kit_ty (by decide +kernel), true, rfl, q⟩
    · refine ⟨_, rfl, .str x, .ty "int", _, _, false, rfl, .ty "int", .base (.str x), kit_ty (by decide +kernel), false, rfl, iteF ?_⟩
      exact q
theorem cal_is_integer_any (T : Top K mg) (hN : base.NoSeer) (hT : P.given.tree = none) : Cal P w K mg base 1 "is_integer" sp_is_integer_any [] := ⟨⟨_, _, _, [], ok_is_integer_any T, T.g_is_integer, T.F_is_integer.kp, T.b_is_integer, .nil⟩⟩

end
end K39
namespace K39
open PySem PySem.Spec PyProof.Rows L2 Gm
open C8 (Cal Met Mak pe_c pe_mt pe_mt0 pe_mk)
section
variable {P : Program} {w : World} {K : PySem.W.Frag} {mg : Str → Option Value} {base : Heap}
/-! ### is_even -/
def ent (m : List (List Int)) (i j : Nat) : Int := (m.getD i []).getD j 0
theorem ent_get {n B : Nat} {m : List (List Int)} (h : Sq n B m) {i j : Nat} (hi : i < n) (hj : j < n) : ∃ r, m[i]? = some r ∧ r[j]? = some (ent m i j) ∧ (ent m i j).natAbs < 2 ^ B := by
  have hi' : i < m.length := by rw [h.len]; exact hi
  have hr := h.row m[i] (List.getElem_mem hi')
  have e : ent m i j = m[i][j]'(by omega) := by
    unfold ent
    rw [List.getD_eq_getElem?_getD (l := m), List.getElem?_eq_getElem hi', List.getD_eq_getElem?_getD]
    show ((m[i][j]?).getD 0) = _
    rw [List.getElem?_eq_getElem (by omega)]
    rfl
  refine ⟨m[i], List.getElem?_eq_getElem hi', ?_, ?_⟩
  · rw [e]
    exact List.getElem?_eq_getElem (by omega)
  · rw [e]
    exact h.bits m[i] (List.getElem_mem hi') _ (List.getElem_mem _)
theorem getD_get {v : List Int} {i : Nat} (h : i < v.length) : v[i]? = some (v.getD i 0) := by
  rw [List.getD_eq_getElem?_getD, List.getElem?_eq_getElem h]
  rfl
def evenM (n : Nat) (m : List (List Int)) : Bool := (List.range n).all fun k => decide (V.int (ent m k k % 2) = V.int 0)
def sp_Lattice_is_even (K : PySem.W.Frag) (CG CL : Addr) : Sp := fun vs H Q _ => ∃ v m n, vs = [v] ∧ IsLat K CG CL H v m n ∧ ∀ H', Same H H' → Q (.bl (evenM n m)) H'
inductive InV (K : PySem.W.Frag) (H : Hp) (n : Nat) : V → Bool → Prop
  | no {x : V} {t : String} (h : TyX K H x (.type t)) (e : PySem.W.kitOne K (.type t) (.type "tuple") = some false) : InV K H n x false
  | len {a : Addr} {xs : List V} (h : SqT K H a xs) (e : xs.length ≠ n) : InV K H n (.ref a) false
  | tup {a : Addr} {xs : List V} (h : SqT K H a xs) (e : xs.length = n) (f : ∀ x ∈ xs, Flat x) : InV K H n (.ref a) (xs.all isI)
def sp_Lattice_contains (K : PySem.W.Frag) (CG CL : Addr) : Sp := fun vs H Q _ => ∃ v m n x b, vs = [v, x] ∧ IsLat K CG CL H v m n ∧ InV K H n x b ∧ ∀ H', Same H H' → Q (.bl b) H'
theorem inv_row {K : PySem.W.Frag} {H : Hp} {n : Nat} {v : V} {r : List Int} (h : TRow K H v r) (e : r.length = n) : InV K H n v true := by
  obtain ⟨a, rfl, hs⟩ := h
  have := InV.tup (n := n) hs (by rw [List.length_map]; exact e) fun x hx => by
    obtain ⟨z, _, rfl⟩ := List.mem_map.mp hx
    exact .inl ⟨z, rfl⟩
  rw [List.all_map] at this
  have e2 : r.all (isI ∘ V.int) = true := List.all_eq_true.mpr fun _ _ => rfl
  rw [e2] at this
  exact this
def sp_check_vector (K : PySem.W.Frag) (CG CL : Addr) : Sp := fun vs H Q _ => ∃ v m n x, vs = [v, x] ∧ IsLat K CG CL H v m n ∧ InV K H n x true ∧ ∀ H', Same H H' → Q .non H'
def sp_check_vector_X (K : PySem.W.Frag) (CG CL X : Addr) : Sp := fun vs H _ E => ∃ v m n x, vs = [v, x] ∧ IsLat K CG CL H v m n ∧ InV K H n x false ∧ ∀ H', Same H H' → E (.ref X) none H'
theorem dot_bits' {B1 B2 : Nat} {xs ys : List Int} (h1 : Bits B1 xs) (h2 : Bits B2 ys) (hl : xs.length ≤ 4) : (dotI xs ys).natAbs < 2 ^ (B1 + B2 + 3) := by
  have h : (dotI xs ys).natAbs ≤ (List.zipWith (· * ·) xs ys).length * (2 ^ B1 * 2 ^ B2) := by
    refine sum_le fun z hz => ?_
    obtain ⟨k, hk⟩ := List.getElem?_of_mem hz
    rw [List.getElem?_zipWith] at hk
    cases e1 : xs[k]? with
    | none => rw [e1] at hk; cases hk
    | some a =>
      cases e2 : ys[k]? with
      | none => rw [e1, e2] at hk; cases hk
      | some b =>
        rw [e1, e2] at hk
        rw [← Option.some.inj hk, Int.natAbs_mul]
        exact Nat.mul_le_mul (Nat.le_of_lt (h1.at e1)) (Nat.le_of_lt (h2.at e2))
  have h3 : (List.zipWith (· * ·) xs ys).length ≤ 4 := by
    rw [List.length_zipWith]
    omega
  have h4 : (List.zipWith (· * ·) xs ys).length * (2 ^ B1 * 2 ^ B2) ≤ 4 * (2 ^ B1 * 2 ^ B2) := Nat.mul_le_mul_right _ h3
  have h5 : 2 ^ (B1 + B2 + 3) = 8 * (2 ^ B1 * 2 ^ B2) := by
    rw [Nat.pow_add, Nat.pow_add, Nat.mul_comm]
  have h6 : 0 < 2 ^ B1 * 2 ^ B2 := Nat.mul_pos (Nat.two_pow_pos _) (Nat.two_pow_pos _)
  omega
def sp_Lattice_product (K : PySem.W.Frag) (CG CL : Addr) : Sp := fun vs H Q _ => ∃ v m n x y xs ys, vs = [v, x, y] ∧ IsLat K CG CL H v m n ∧ TRow K H x xs ∧ TRow K H y ys ∧ xs.length = n ∧ ys.length = n ∧ Bits 8 xs ∧ Bits 8 ys ∧ ∀ H', Same H H' → Q (.int (dotI (timesM m xs) ys)) H'
def sp_Lattice_product_XV (K : PySem.W.Frag) (CG CL X : Addr) : Sp := fun vs H _ E => ∃ v m n x y, vs = [v, x, y] ∧ IsLat K CG CL H v m n ∧ InV K H n x false ∧ ∀ H', Same H H' → E (.ref X) none H'
def sp_Lattice_product_XW (K : PySem.W.Frag) (CG CL X : Addr) : Sp := fun vs H _ E => ∃ v m n x xs y, vs = [v, x, y] ∧ IsLat K CG CL H v m n ∧ TRow K H x xs ∧ xs.length = n ∧ (∀ H', Same H H' → InV K H' n y false) ∧ ∀ H', Same H H' → E (.ref X) none H'
def sp_Lattice_norm (K : PySem.W.Frag) (CG CL : Addr) : Sp := fun vs H Q _ => ∃ v m n x xs, vs = [v, x] ∧ IsLat K CG CL H v m n ∧ TRow K H x xs ∧ xs.length = n ∧ Bits 8 xs ∧ ∀ H', Same H H' → Q (.int (dotI (timesM m xs) xs)) H'
def sp_Lattice_norm_X (K : PySem.W.Frag) (CG CL X : Addr) : Sp := fun vs H _ E => ∃ v m n x, vs = [v, x] ∧ IsLat K CG CL H v m n ∧ InV K H n x false ∧ ∀ H', Same H H' → E (.ref X) none H'
theorem nfLG (T : Top K mg) : PySem.W.notFirst K T.C_Lattice (.ref T.C_Grid) = true := by
  unfold PySem.W.notFirst
  rw [T.sub_GL]
  simp
theorem ne_GL (T : Top K mg) : T.C_Grid ≠ T.C_Lattice := fun e => by
  have h := T.sub_GL
  rw [e, T.se_L] at h
  cases h
theorem kit_GL (T : Top K mg) : PySem.W.kitOne K (.ref T.C_Grid) (.ref T.C_Lattice) = some false := by
  show (if (Value.ref T.C_Grid == Value.ref T.C_Lattice) = true then some true else if ((PySem.W.clsIn K T.C_Lattice).isSome && PySem.W.typeIn K (.ref T.C_Lattice) == some (.type "type")) = true then PySem.W.subIn K (.ref T.C_Grid) (.ref T.C_Lattice) else none) = some false
  have e2 : ((PySem.W.clsIn K T.C_Lattice).isSome && PySem.W.typeIn K (.ref T.C_Lattice) == some (.type "type")) = true := by
    have e := T.ic_Lattice
    have e' : (PySem.W.clsIn K T.C_Lattice).isSome = true := e
    rw [e', T.ty_Lattice] <;> rfl
  have e1 : ¬ (Value.ref T.C_Grid == Value.ref T.C_Lattice) = true := fun h => ne_GL T (Value.ref.inj (beq_iff_eq.mp h))
  rw [if_neg e1, if_pos e2]
  exact T.sub_GL
def sp_Lattice_eq (K : PySem.W.Frag) (CG CL : Addr) : Sp := fun vs H Q _ => ∃ v m n u, vs = [v, u] ∧ IsLat K CG CL H v m n ∧ ((∃ m2 n2, IsLat K CG CL H u m2 n2 ∧ Q (.bl (decide (m = m2 ∧ n = n2))) H) ∨ ((∃ t, TyX K H u t ∧ PySem.W.kitOne K t (.ref CL) = some false) ∧ Q (.bl false) H))

end
end K39
namespace K39
open PySem PySem.Spec PyProof.Rows L2 Gm
open C8 (Cal Met Mak pe_c pe_mt pe_mt0 pe_mk)
section
variable {P : Program} {w : World} {K : PySem.W.Frag} {mg : Str → Option Value} {base : Heap}
def sp_checked_gram_G (K : PySem.W.Frag) (C : Addr) : Sp := fun vs H Q _ => ∃ (v : V) (m : List (List Int)) (n : Nat), vs = [v] ∧ IsGrid K C H v m n ∧ Gram n m ∧ ∀ H', Same H H' → Q v H'
theorem ok_checked_gram_G (T : Top K mg) (hN : base.NoSeer) (hT : P.given.tree = none) : FnOk P w K mg base CX0 44 T.a_checked_gram T.d_checked_gram ["gram"] (sp_checked_gram_G K T.C_Grid) := by
  refine T.F_checked_gram.ok sc_checked_gram (fun vs H Q E h => ?_) (fun cdv A outer s H vs Q E hr h => ?_)
  · obtain ⟨v, m, n, rfl, _⟩ := h
    rfl
  · obtain ⟨v, m, n, rfl, G, gm, q⟩ := h
    have sq := gm.sq
    have lm := sq.len
    have hn4 := gm.n4
    have hn1 := gm.n1
    have sym := gm.sym
    obtain ⟨⟨gx, gd, t, rfl, ho, ht⟩, hrw⟩ := id G
    obtain ⟨qt, wt, rfl, hq, hpt⟩ := id ht
    have lwt := Paired.length hpt
    have tyG : TyX K H (.ref gx) (.ref T.C_Grid) := .base (.ins ho T.cl_Grid T.kc_Grid T.kg_Grid T.kt_Grid T.km_Grid)
    refine ⟨_, (pss_cons (ps_set (i := 1) sc_checked_gram.nd rfl (by first | exact .inl rfl | exact .inr rfl) (pe_ifExp (pt_val (pe_callB (isiK K rfl) (by rfl) T.z_isinstance (by decide +kernel) (pa_cons (pv 0) (pa_cons (pe_glob (by rfl) T.g_Grid (show RelV (.ref T.C_Grid) _ from rfl)) pa_nil)))) (fldK K rfl (pv 0) rfl) (pv 0)))
      (pss_cons (ps_if (PW.pt (pw_and (pt_val (pe_callB (isiTK K rfl) (by rfl) T.z_isinstance (by decide +kernel) (pa_cons (pv 1) (pa_cons (pe_tup (pa_cons (pe_bltn (v := .ty "list") (by rfl) T.z_list (by decide +kernel) rfl) (pa_cons (pe_bltn (v := .ty "tuple") (by rfl) T.z_tuple (by decide +kernel) rfl) pa_nil))) pa_nil)))) (pw_and1 (pt_cmpR op_gt (pe_callB (lenS K rfl) (by rfl) T.z_len (by decide +kernel) (pa_cons (pv 1) pa_nil)) (pe_glob (v := V.int 4) (by rfl) T.g_MOST_ROWS ⟨_, rfl⟩) (nomark _)))))
      (pss_one ps_never)
      pss_nil)
      (pss_cons (ps_set (i := 2) sc_checked_gram.nd rfl (by first | exact .inl rfl | exact .inr rfl) (pe_ifExp (pt_val (pe_callB (isiK K rfl) (by rfl) T.z_isinstance (by decide +kernel) (pa_cons (pv 0) (pa_cons (pe_glob (by rfl) T.g_Grid (show RelV (.ref T.C_Grid) _ from rfl)) pa_nil)))) (pv 0) (pe_mk (mak_Grid_N T hN hT) hr (by decide) (by rfl) (pa_cons (pv 0) pa_nil))))
      (pss_cons (ps_if (PW.pt (pw_or (pt_cmpR op_eq (pe_callB (lenS K rfl) (by rfl) T.z_len (by decide +kernel) (pa_cons (fldK K rfl (pv 2) rfl) pa_nil)) pe_int (nomark _)) (pw_or1 (pt_cmpR ((op_ownNe (E := L2.E0) T.km_Grid T.ne_Grid T.m_Grid_eq.at_ T.m_Grid_eq.fn (ok_Grid_eq T hN hT) (hr.mono (by decide)) T.b_Grid_eq (fun _ _ _ _ h => h.elim))) (pv 2) (pe_mt0 (met_Grid_transposed T hN hT) hr (by decide) (pv 2)) (nomark _)))))
      (pss_one ps_never)
      pss_nil)
      (pss_cons (ps_if (pt_cmpR op_gt (pe_callB (maxK K rfl rfl) (by rfl) T.z_max (by decide +kernel) (pa_cons (pe_lc2 (own := [("row", 3), ("item", 4)]) (vs1 := [4]) (g := (gName 3)) (g1 := (gName 4)) (by rfl) sc_checked_gram.nd (piT K rfl (fldK K rfl (pv 2) rfl)) (by show BlkOk ["gram", "rows", "grid", "row", "item"] (defScope s_checked_gram) _ _; exact blkOk_by (by decide +kernel)) (by decide) (fun _ _ _ _ _ => (pg_name (i := 3) sc_checked_gram.nd rfl (by first | exact .inl rfl | exact .inr rfl))) (fun _ _ _ _ _ => pts_nil) (fun _ _ _ _ _ => (piT K rfl (pv 3))) (fun _ _ _ _ _ => (pg_name (i := 4) sc_checked_gram.nd rfl (by first | exact .inl rfl | exact .inr rfl))) (fun _ _ _ _ _ => pts_nil) (fun _ _ _ _ _ => (pe_callB (call_abs) (by rfl) T.z_abs (by decide +kernel) (pa_cons (pv 4) pa_nil)))) pa_nil)) (pe_glob (v := V.int 10000) (by rfl) T.g_MOST ⟨_, rfl⟩) (nomark _))
      (pss_one ps_never)
      pss_nil)
      (pss_cons (ps_if (pt_not (pt_val (pe_c (cal_is_positive T hN hT) hr (by decide) (by rfl) (pa_cons (fldK K rfl (pv 2) rfl) pa_nil))))
      (pss_one ps_never)
      pss_nil)
      (pss_one (ps_ret (pv 2))))))))), ?_⟩
    refine ⟨_, rfl, .ref gx, .ref T.C_Grid, _, _, true, rfl, .own _, tyG, kit_self, true, rfl, ?_⟩
    refine iteT ?_
    refine ⟨_, rfl, gx, T.C_Grid, gd, _, _, rfl, ho, T.cl_Grid, T.n_rows, flds_rows _ _, ?_⟩
    -- isinstance(rows, (list, tuple)) and len(rows) > 4
    refine ⟨_, rfl, by show 2 ≤ sizeLine; decide, fun tp np => ?_⟩
    have s1 := same_upd (o := .tup [.ty "list", .ty "tuple"]) np
    have hq1 := Same.seqT s1 hq
    refine ⟨.ref qt, tp, [.ty "list", .ty "tuple"], _, [.type "list", .type "tuple"], true, rfl, upd_same, .cons (.ty _) (.cons (.ty _) .nil), row_ty hq1, kit_lt (.inr rfl), true, rfl, ?_⟩
    refine iteT ?_
    have G1 := IsGrid.same s1 G
    generalize upd H tp (.tup [.ty "list", .ty "tuple"]) = H1 at s1 hq1 G1 ⊢
    refine ⟨_, rfl, qt, _, rfl, .inr hq1, _, _, rfl, rfl, _, rfl, ?_⟩
    rw [decide_eq_false (show ¬ (4 : Int) < (wt.length : Int) by omega)]
    refine iteF ?_
    obtain ⟨⟨_, gd1, t1, ep, ho1, ht1⟩, _⟩ := id G1
    cases ep
    refine ⟨_, rfl, .ref gx, .ref T.C_Grid, _, _, true, rfl, .own _, .base (.ins ho1 T.cl_Grid T.kc_Grid T.kg_Grid T.kt_Grid T.km_Grid), kit_self, true, rfl, ?_⟩
    refine iteT ?_
    refine ⟨_, rfl, ?_⟩
    obtain ⟨qt1, wt1, rfl, hqt1, hpt1⟩ := id ht1
    have lwt1 := Paired.length hpt1
    refine ⟨_, rfl, gx, _, gd1, _, _, rfl, ho1, T.cl_Grid, T.n_rows, flds_rows _ _, qt1, _, rfl, .inr hqt1, rfl, _, rfl, ?_⟩
    rw [show decide (V.int (wt1.length : Int) = V.int 0) = false from decide_eq_false fun z => by have := V.int.inj z; omega]
    refine iteF ?_
    refine ⟨_, rfl, _, rfl, gx, gd1, _, rfl, ho1, m_transposed _ _, _, m, n, rfl, G1, by omega, by omega, fun g3 H3 s3 G3 => ?_⟩
    rw [sym, lm] at G3
    refine ne_grid (IsGrid.same s3 G1) G3 ⟨_, rfl, ?_⟩
    refine iteF ?_
    -- max
    have G23 := IsGrid.same s3 G1
    obtain ⟨⟨p, dx3, t3, ep, ho3, ht3⟩, _⟩ := id G23
    cases ep
    obtain ⟨qt3, wt3, rfl, hq3, hpt3⟩ := id ht3
    refine ⟨_, rfl, gx, _, dx3, _, _, rfl, ho3, T.cl_Grid, T.n_rows, flds_rows _ _, qt3, rfl, ⟨_, hq3⟩, fun D hD => ?_⟩
    refine lc2_rows (j := 3) (j1 := 4) (vs := [3, 4]) (vs1 := [4]) (te := tCB (fun xs H Q => ∃ i, xs = [V.int i] ∧ Q (V.int (if i < 0 then -i else i)) H) (tCons (tVar 4) tNil)) (f := fun z => if z < 0 then -z else z) hq3 hD hpt3 (flat_len sq hn4) ?_ ?_ ?_ ?_ ?_
    · intro _; rfl
    · intro _ _; rfl
    · intro _; rfl
    · exact fun z x H Ko k => ⟨_, rfl, z, rfl, k⟩
    intro H4 s4 eD
    have lfl : 0 < (m.flatten.map fun z => if z < 0 then -z else z).length := by
      rw [List.length_map]
      cases m with
      | nil => rw [List.length_nil] at lm; omega
      | cons r m =>
        have := sq.row r (List.mem_cons_self ..)
        rw [List.flatten_cons, List.length_append]
        omega
    refine ⟨D, _, rfl, .inl (.inl eD), lfl, fun mx hmx _ => ?_⟩
    have hmx2 : mx ≤ 10000 := by
      obtain ⟨z, hz, rfl⟩ := List.mem_map.mp hmx
      obtain ⟨r, hr', hzr⟩ := List.mem_flatten.mp hz
      have hb : z.natAbs < 1024 := sq.bits r hr' z hzr
      split <;> omega
    refine ⟨_, _, rfl, rfl, _, rfl, ?_⟩
    rw [decide_eq_false (show ¬ (10000 : Int) < mx by omega)]
    refine iteF ?_
    have G4 := IsGrid.same s4 G23
    obtain ⟨⟨p, dx4, t4, ep, ho4, ht4⟩, _⟩ := id G4
    cases ep
    refine ⟨_, rfl, gx, _, dx4, _, _, rfl, ho4, T.cl_Grid, T.n_rows, flds_rows _ _, t4, m, n, 10, rfl, ht4, sq, hn4, by decide, fun H5 s5 => ?_⟩
    rw [gm.pos]
    refine ⟨_, rfl, ?_⟩
    refine iteF ?_
    exact ⟨_, rfl, q H5 (s1.trans (s3.trans (s4.trans s5)))⟩
theorem cal_checked_gram_G (T : Top K mg) (hN : base.NoSeer) (hT : P.given.tree = none) : Cal P w K mg base 44 "checked_gram" (sp_checked_gram_G K T.C_Grid) [] := ⟨⟨_, _, _, [], ok_checked_gram_G T hN hT, T.g_checked_gram, T.F_checked_gram.kp, T.b_checked_gram, .nil⟩⟩
def sp_Lattice_init_G (K : PySem.W.Frag) (CG CL : Addr) : Sp := fun vs H Q _ => ∃ (p dx : Addr) (g : V) (m : List (List Int)) (n : Nat), vs = [.ref p, g] ∧ H p = some (.ins CL dx []) ∧ IsGrid K CG H g m n ∧ Gram n m ∧ ∀ H', Off p H H' → H' p = some (.ins CL dx (fldG g)) → IsGrid K CG H' g m n → Q .non H'
theorem ok_Lattice_init_G (T : Top K mg) (hN : base.NoSeer) (hT : P.given.tree = none) : FnOk P w K mg base CX0 45 T.a_Lattice_init T.d_Lattice_init ["self", "gram"] (sp_Lattice_init_G K T.C_Grid T.C_Lattice) := by
  refine T.F_Lattice_init.ok sc_Lattice_init (fun vs H Q E h => ?_) (fun cdv A outer s H vs Q E hr h => ?_)
  · obtain ⟨p, dx, g, m, n, rfl, _⟩ := h
    rfl
  · obtain ⟨p, dx, g, m, n, rfl, hp, G, gm, q⟩ := h
    refine ⟨_, (pss_one (ps_fld (pv 0) (pe_c (cal_checked_gram_G T hN hT) hr (by decide) (by rfl) (pa_cons (pv 1) pa_nil)) rfl)), ?_⟩
    refine ⟨_, rfl, g, m, n, rfl, G, gm, fun H1 s1 => ?_⟩
    have hp1 := s1 _ _ hp
    refine ⟨_, rfl, p, T.C_Lattice, dx, [], rfl, hp1, T.cl_Lattice, T.n_gram, by show 0 < 1000; decide, ?_⟩
    exact q _ (fun b o n e => by rw [upd_ne n]; exact s1 _ _ e) upd_same (grid_off hp1 Off.upd (IsGrid.same s1 G))
theorem mak_Lattice_G (T : Top K mg) (hN : base.NoSeer) (hT : P.given.tree = none) : Mak P w K mg base 45 "Lattice" T.C_Lattice (sp_Lattice_init_G K T.C_Grid T.C_Lattice) [] := ⟨⟨_, _, _, [], T.mk_Lattice, ok_Lattice_init_G T hN hT, T.g_Lattice, T.b_Lattice_init, .nil⟩⟩
theorem make_latG {K : PySem.W.Frag} {CG CL x dx : Addr} {g : V} {H1 : Hp} {m : List (List Int)} {n : Nat} {Q : VK} {E : XK} (nx : H1 x = none) (nd : H1 dx = none) (G : IsGrid K CG H1 g m n) (gm : Gram n m) (q : ∀ H', Same H1 H' → IsLat K CG CL H' (.ref x) m n → Q .non H') :
    sp_Lattice_init_G K CG CL [.ref x, g] (upd (upd H1 dx (.own x)) x (.ins CL dx [])) Q E := by
  have s0 : Same H1 (upd (upd H1 dx (.own x)) x (.ins CL dx [])) := fun b o e => by
    rw [upd_ne (ne_of_none e nx), upd_ne (ne_of_none e nd)]
    exact e
  refine ⟨x, dx, g, m, n, rfl, upd_same, IsGrid.same s0 G, gm, fun H' o ho G => ?_⟩
  exact q _ (fun b u e => o _ _ (ne_of_none e nx) (s0 _ _ e)) ⟨⟨x, dx, g, rfl, ho, G⟩, gm⟩

end
end K39
namespace K39
open PySem PySem.Spec PyProof.Rows L2 Gm
open C8 (Cal Met Mak pe_c pe_mt pe_mt0 pe_mk)
section
variable {P : Program} {w : World} {K : PySem.W.Frag} {mg : Str → Option Value} {base : Heap}
def LRow (H : Hp) (v : V) (r : List Int) : Prop := ∃ a, v = .ref a ∧ H a = some (.lst (r.map V.int))
def LRows (H : Hp) (v : V) (m : List (List Int)) : Prop := ∃ a ws, v = .ref a ∧ H a = some (.lst ws) ∧ Paired (LRow H) ws m
theorem LRow.same {H H' : Hp} {v : V} {r : List Int} (s : Same H H') (h : LRow H v r) : LRow H' v r := let ⟨a, e, x⟩ := h; ⟨a, e, s _ _ x⟩
theorem LRows.same {H H' : Hp} {v : V} {m : List (List Int)} (s : Same H H') (h : LRows H v m) : LRows H' v m := let ⟨a, ws, e, x, p⟩ := h; ⟨a, ws, e, s _ _ x, L2.Paired.mapP p fun _ _ => LRow.same s⟩
theorem sl_lst {K : PySem.W.Frag} {H : Hp} {a : Addr} {xs : List V} {lo hi : Option Int} {Q : VK} (h : H a = some (.lst xs)) (q : ∀ p, H p = none → Q (.ref p) (upd H p (.lst (cutV xs lo hi)))) : rSlL K (.ref a) lo hi H Q := ⟨a, xs, rfl, .inl (.inl h), q⟩
theorem lmono {D : Addr} {m : List (List Int)} (i : Nat) (v : V) (H H' : Hp) (acc : List V) (_ : H D = some (.lst acc)) (o : Off D H H') (h : ∃ r, m[i]? = some r ∧ ∃ p, v = V.ref p ∧ p ≠ D ∧ H p = some (.lst (r.map V.int))) : ∃ r, m[i]? = some r ∧ ∃ p, v = V.ref p ∧ p ≠ D ∧ H' p = some (.lst (r.map V.int)) := let ⟨r, er, p, ev, ne, eh⟩ := h; ⟨r, er, p, ev, ne, o _ _ ne eh⟩
theorem lrows_of {D : Addr} {H : Hp} {l : List V} {m : List (List Int)} {n : Nat} (hn : n = m.length) (e : H D = some (.lst l)) (h : Paired (fun (i : Nat) v => ∃ r, m[i]? = some r ∧ ∃ p, v = V.ref p ∧ p ≠ D ∧ H p = some (.lst (r.map V.int))) (List.range n) l) : LRows H (.ref D) m :=
  ⟨D, l, rfl, e, L2.Paired.mapP (paired_at (F := fun v r => ∃ p, v = V.ref p ∧ p ≠ D ∧ H p = some (.lst (r.map V.int))) hn h) fun _ _ ⟨p, ev, _, eh⟩ => ⟨p, ev, eh⟩⟩
/-- a list of lists apart from two others -/
def LA (p R : Addr) (H : Hp) (v : V) (r : List Int) : Prop := ∃ q, v = .ref q ∧ q ≠ p ∧ q ≠ R ∧ H q = some (.lst (r.map V.int))
theorem LA.same {p R : Addr} {H H' : Hp} {v : V} {r : List Int} (s : Same H H') (h : LA p R H v r) : LA p R H' v r := let ⟨q, e, n1, n2, x⟩ := h; ⟨q, e, n1, n2, s _ _ x⟩
theorem LA.offp {p R : Addr} {H H' : Hp} {v : V} {r : List Int} (o : Off p H H') (h : LA p R H v r) : LA p R H' v r := let ⟨q, e, n1, n2, x⟩ := h; ⟨q, e, n1, n2, o _ _ n1 x⟩
theorem LA.offR {p R : Addr} {H H' : Hp} {v : V} {r : List Int} (o : Off R H H') (h : LA p R H v r) : LA p R H' v r := let ⟨q, e, n1, n2, x⟩ := h; ⟨q, e, n1, n2, o _ _ n2 x⟩
theorem LA.row {p R : Addr} {H : Hp} {v : V} {r : List Int} (h : LA p R H v r) : LRow H v r := let ⟨q, e, _, _, x⟩ := h; ⟨q, e, x⟩
theorem la_upd {p R q : Addr} {H : Hp} {r' : List Int} : ∀ {gl : List V} {ms : List (List Int)} {i : Nat}, Paired (LA p R H) gl ms → gl.Nodup → gl[i]? = some (.ref q) → Paired (LA p R (upd H q (.lst (r'.map V.int)))) gl (ms.set i r')
  | _, _, i, .nil, _, h => by simp at h
  | v :: gl, r :: ms, 0, .cons x xs, nd, h => by
    obtain ⟨a, e, n1, n2, hx⟩ := x
    have hv : v = .ref q := by simpa using h
    rw [hv] at e
    cases e
    refine .cons ⟨q, hv, n1, n2, upd_same⟩ ?_
    have hq : .ref q ∉ gl := by rw [← hv]; exact (List.nodup_cons.mp nd).1
    exact go xs hq
  | v :: gl, r :: ms, i + 1, .cons x xs, nd, h => by
    obtain ⟨a, e, n1, n2, hx⟩ := x
    have hm : V.ref q ∈ gl := List.mem_of_getElem? (by simpa using h)
    refine .cons ⟨a, e, n1, n2, ?_⟩ (la_upd xs (List.nodup_cons.mp nd).2 (by simpa using h))
    rw [L2.upd_ne]
    · exact hx
    · rintro rfl
      rw [← e] at hm
      exact (List.nodup_cons.mp nd).1 hm
where
  go {p R q : Addr} {H : Hp} {r' : List Int} : ∀ {gl : List V} {ms : List (List Int)}, Paired (LA p R H) gl ms → .ref q ∉ gl → Paired (LA p R (upd H q (.lst (r'.map V.int)))) gl ms
    | _, _, .nil, _ => .nil
    | v :: gl, r :: ms, .cons x xs, nd => by
      obtain ⟨a, e, n1, n2, hx⟩ := x
      refine .cons ⟨a, e, n1, n2, ?_⟩ (go xs fun h => nd (List.mem_cons_of_mem _ h))
      rw [L2.upd_ne]
      · exact hx
      · rintro rfl
        exact nd (by rw [e]; exact List.mem_cons_self ..)
/-- a list of lists that is apart from p -/
def LAs (p : Addr) (H : Hp) (v : V) (m : List (List Int)) : Prop := ∃ a ws, v = .ref a ∧ a ≠ p ∧ H a = some (.lst ws) ∧ Paired (LA p p H) ws m
theorem LAs.rows {p : Addr} {H : Hp} {v : V} {m : List (List Int)} (h : LAs p H v m) : LRows H v m := let ⟨a, ws, e, _, x, q⟩ := h; ⟨a, ws, e, x, L2.Paired.mapP q fun _ _ => LA.row⟩
theorem LAs.offp {p : Addr} {H H' : Hp} {v : V} {m : List (List Int)} (o : Off p H H') (h : LAs p H v m) : LAs p H' v m := let ⟨a, ws, e, n, x, q⟩ := h; ⟨a, ws, e, n, o _ _ n x, L2.Paired.mapP q fun _ _ => LA.offp o⟩
theorem LAs.same {p : Addr} {H H' : Hp} {v : V} {m : List (List Int)} (s : Same H H') (h : LAs p H v m) : LAs p H' v m := h.offp (Same.off s)
theorem LRows.irows {K : PySem.W.Frag} {H : Hp} {v : V} {m : List (List Int)} (h : LRows H v m) : IRows K H v m := let ⟨a, ws, e, x, q⟩ := h; ⟨a, ws, e, .inl (.inl (.inl x)), L2.Paired.mapP q fun _ _ ⟨b, eb, xb⟩ => ⟨b, eb, .inl (.inl (.inl xb))⟩⟩

/-! ### _law_gram -/
theorem ent_of {m : List (List Int)} {i j : Nat} {r : List Int} (h : m[i]? = some r) : ent m i j = r.getD j 0 := by
  unfold ent
  rw [List.getD_eq_getElem?_getD (l := m), h]
  rfl
theorem ent_set {m : List (List Int)} {i j : Nat} {r : List Int} {z : Int} (h : m[i]? = some r) (hj : j < r.length) (a b : Nat) : ent (m.set i (r.set j z)) a b = if a = i ∧ b = j then z else ent m a b := by
  have hi := (List.getElem?_eq_some_iff.mp h).1
  unfold ent
  rw [List.getD_eq_getElem?_getD (l := List.set ..), List.getElem?_set]
  by_cases h1 : i = a
  · subst h1
    rw [if_pos rfl, if_pos hi]
    show (r.set j z).getD b 0 = _
    rw [List.getD_eq_getElem?_getD, List.getElem?_set]
    by_cases h2 : j = b
    · subst h2
      rw [if_pos rfl, if_pos hj, if_pos ⟨rfl, rfl⟩]
      rfl
    · rw [if_neg h2, if_neg (fun h => h2 h.2.symm), List.getD_eq_getElem?_getD (l := m), h]
      rw [← List.getD_eq_getElem?_getD]
      rfl
  · rw [if_neg h1, if_neg (fun h => h1 h.1.symm), ← List.getD_eq_getElem?_getD]
structure SymZ (n : Nat) (m : List (List Int)) : Prop where
  sq : Sq n 1 m
  sym : ∀ a b, a < n → b < n → ent m a b = ent m b a
  zero : ∀ a, a < n → ent m a a = 0
theorem sq_set {n B i j : Nat} {m : List (List Int)} {r : List Int} {z : Int} (h : Sq n B m) (hr : m[i]? = some r) (hz : z.natAbs < 2 ^ B) : Sq n B (m.set i (r.set j z)) := by
  have hm := List.mem_of_getElem? hr
  refine ⟨by rw [List.length_set]; exact h.len, fun q hq => ?_, fun q hq => ?_⟩
  · rcases List.mem_or_eq_of_mem_set hq with h1 | h1
    · exact h.row q h1
    · rw [h1, List.length_set]
      exact h.row r hm
  · rcases List.mem_or_eq_of_mem_set hq with h1 | h1
    · exact h.bits q h1
    · rw [h1]
      intro x hx
      rcases List.mem_or_eq_of_mem_set hx with h2 | h2
      · exact h.bits r hm x h2
      · rw [h2]
        exact hz
theorem symZ_set {n i j : Nat} {m : List (List Int)} {r r2 : List Int} {z : Int} (h : SymZ n m) (hij : j < i) (hi : i < n) (hr : m[i]? = some r) (hr2 : (m.set i (r.set j z))[j]? = some r2) (hz : z.natAbs < 2) : SymZ n ((m.set i (r.set j z)).set j (r2.set i z)) := by
  have s1 := sq_set (j := j) h.sq hr (z := z) hz
  have hrl := h.sq.row r (List.mem_of_getElem? hr)
  have hr2l := s1.row r2 (List.mem_of_getElem? hr2)
  refine ⟨sq_set s1 hr2 hz, fun a b ha hb => ?_, fun a ha => ?_⟩
  · have h0 := h.sym a b ha hb
    rw [ent_set hr2 (by omega), ent_set hr2 (by omega), ent_set hr (by omega), ent_set hr (by omega)]
    by_cases e1 : a = j ∧ b = i
    · rw [if_pos e1, if_neg (by omega), if_pos ⟨e1.2, e1.1⟩]
    · by_cases e2 : b = j ∧ a = i
      · rw [if_neg e1, if_pos ⟨e2.2, e2.1⟩, if_pos e2]
      · rw [if_neg e1, if_neg (by omega), if_neg e2, if_neg (by omega)]
        exact h0
  · have h0 := h.zero a ha
    rw [ent_set hr2 (by omega), ent_set hr (by omega), if_neg (by omega), if_neg (by omega)]
    exact h0
def aI (z : Int) : Int := if z < 0 then -z else z
def sumA (r : List Int) : Int := (r.map aI).sum
def dgM (rs : List (List Int)) (t : Nat → Int) (i : Nat) : List (List Int) := (List.range rs.length).map fun a => if a < i then (rs.getD a []).set a (1 + t a + sumA (rs.getD a [])) else rs.getD a []
theorem dgM_get {rs : List (List Int)} {t : Nat → Int} {i a : Nat} (h : a < rs.length) : (dgM rs t i)[a]? = some (if a < i then (rs.getD a []).set a (1 + t a + sumA (rs.getD a [])) else rs.getD a []) := by
  unfold dgM
  rw [List.getElem?_map, List.getElem?_range h]
  rfl
theorem dgM_none {rs : List (List Int)} {t : Nat → Int} {i a : Nat} (h : ¬ a < rs.length) : (dgM rs t i)[a]? = none := by
  unfold dgM
  rw [List.getElem?_map, List.getElem?_eq_none (by rw [List.length_range]; omega)]
  rfl
theorem dgM_0 (rs : List (List Int)) (t : Nat → Int) : dgM rs t 0 = rs := by
  apply List.ext_getElem?
  intro a
  by_cases h : a < rs.length
  · rw [dgM_get h, if_neg (by omega), List.getD_eq_getElem?_getD, List.getElem?_eq_getElem h]
    rfl
  · rw [dgM_none h, List.getElem?_eq_none (by omega)]
theorem dgM_step {rs : List (List Int)} {t : Nat → Int} {i : Nat} {r : List Int} {z : Int} (h : rs[i]? = some r) : (dgM rs t i).set i (r.set i (1 + z + sumA r)) = dgM rs (fun a => if a = i then z else t a) (i + 1) := by
  have hi := (List.getElem?_eq_some_iff.mp h).1
  have hl : (dgM rs t i).length = rs.length := by unfold dgM; rw [List.length_map, List.length_range]
  apply List.ext_getElem?
  intro a
  rw [List.getElem?_set]
  by_cases h1 : i = a
  · subst h1
    rw [if_pos rfl, if_pos (by omega), dgM_get hi, if_pos (by omega), if_pos rfl, List.getD_eq_getElem?_getD, h]
    rfl
  · rw [if_neg h1]
    by_cases h2 : a < rs.length
    · rw [dgM_get h2, dgM_get h2, if_neg (c := a = i) (fun e => h1 e.symm)]
      by_cases h3 : a < i
      · rw [if_pos h3, if_pos (by omega)]
      · rw [if_neg h3, if_neg (by omega)]
    · rw [dgM_none h2, dgM_none h2]
def U1 (x : Int) : Prop := x = -1 ∨ x = 0 ∨ x = 1
/-- a Gram matrix as the law makes it -/
inductive Dom : Nat → List (List Int) → Prop
  | one {t : Int} : 0 ≤ t → t ≤ 3 → Dom 1 [[1 + t]]
  | two {x t u : Int} : U1 x → 0 ≤ t → t ≤ 3 → 0 ≤ u → u ≤ 3 → Dom 2 [[1 + t + aI x, x], [x, 1 + u + aI x]]
  | three {x y z t u v : Int} : U1 x → U1 y → U1 z → 0 ≤ t → t ≤ 3 → 0 ≤ u → u ≤ 3 → 0 ≤ v → v ≤ 3 → Dom 3 [[1 + t + (aI x + aI y), x, y], [x, 1 + u + (aI x + aI z), z], [y, z, 1 + v + (aI y + aI z)]]
/-- one more at the first place -/
def incM : List (List Int) → List (List Int)
  | (z :: r) :: m => ((z + 1) :: r) :: m
  | m => m
theorem dom_of {n : Nat} {rs : List (List Int)} {t : Nat → Int} (hn : 0 < n) (hn3 : n ≤ 3) (h : SymZ n rs) (ht : ∀ a, 0 ≤ t a ∧ t a ≤ 2) : Dom n (dgM rs t n) ∧ Dom n (incM (dgM rs t n)) := by
  have t0 := ht 0
  have t1 := ht 1
  have t2 := ht 2
  have u1 : ∀ x : Int, x.natAbs < 2 → U1 x := fun x hx => by unfold U1; omega
  have a0 : aI 0 = 0 := rfl
  obtain rfl | rfl | rfl : n = 1 ∨ n = 2 ∨ n = 3 := by omega
  · obtain ⟨a, rfl⟩ := sz1 h.sq.sz
    obtain rfl : a = 0 := h.zero 0 (by decide)
    have e : dgM [[0]] t 1 = [[1 + t 0]] := by
      show [[1 + t 0 + (aI 0 + 0)]] = _
      rw [a0, Int.add_zero, Int.add_zero]
    rw [e]
    refine ⟨.one t0.1 (by omega), ?_⟩
    show Dom 1 [[1 + t 0 + 1]]
    rw [Int.add_assoc]
    exact .one (by omega) (by omega)
  · obtain ⟨a, b, c, d, rfl⟩ := sz2 h.sq.sz
    obtain rfl : a = 0 := h.zero 0 (by decide)
    obtain rfl : d = 0 := h.zero 1 (by decide)
    obtain rfl : b = c := h.sym 0 1 (by decide) (by decide)
    have e : dgM [[0, b], [b, 0]] t 2 = [[1 + t 0 + aI b, b], [b, 1 + t 1 + aI b]] := by
      show [[1 + t 0 + (aI 0 + (aI b + 0)), b], [b, 1 + t 1 + (aI b + (aI 0 + 0))]] = _
      rw [a0, Int.add_zero, Int.add_zero, Int.add_zero, Int.zero_add]
    rw [e]
    have hb := h.sq.bits [0, b] (by simp) b (by simp)
    refine ⟨.two (u1 b hb) t0.1 (by omega) t1.1 (by omega), ?_⟩
    show Dom 2 [[1 + t 0 + aI b + 1, b], [b, 1 + t 1 + aI b]]
    rw [show 1 + t 0 + aI b + 1 = 1 + (t 0 + 1) + aI b by omega]
    exact .two (u1 b hb) (by omega) (by omega) t1.1 (by omega)
  · obtain ⟨a, b, c, d, e, f, g, k, l, rfl⟩ := sz3 h.sq.sz
    obtain rfl : a = 0 := h.zero 0 (by decide)
    obtain rfl : e = 0 := h.zero 1 (by decide)
    obtain rfl : l = 0 := h.zero 2 (by decide)
    obtain rfl : b = d := h.sym 0 1 (by decide) (by decide)
    obtain rfl : c = g := h.sym 0 2 (by decide) (by decide)
    obtain rfl : f = k := h.sym 1 2 (by decide) (by decide)
    have e : dgM [[0, b, c], [b, 0, f], [c, f, 0]] t 3 = [[1 + t 0 + (aI b + aI c), b, c], [b, 1 + t 1 + (aI b + aI f), f], [c, f, 1 + t 2 + (aI c + aI f)]] := by
      show [[1 + t 0 + (aI 0 + (aI b + (aI c + 0))), b, c], [b, 1 + t 1 + (aI b + (aI 0 + (aI f + 0))), f], [c, f, 1 + t 2 + (aI c + (aI f + (aI 0 + 0)))]] = _
      rw [a0, Int.add_zero, Int.add_zero, Int.add_zero, Int.zero_add, Int.zero_add, Int.add_zero]
    rw [e]
    have hb := h.sq.bits [0, b, c] (by simp) b (by simp)
    have hc := h.sq.bits [0, b, c] (by simp) c (by simp)
    have hf := h.sq.bits [b, 0, f] (by simp) f (by simp)
    refine ⟨.three (u1 b hb) (u1 c hc) (u1 f hf) t0.1 (by omega) t1.1 (by omega) t2.1 (by omega), ?_⟩
    show Dom 3 [[1 + t 0 + (aI b + aI c) + 1, b, c], [b, 1 + t 1 + (aI b + aI f), f], [c, f, 1 + t 2 + (aI c + aI f)]]
    rw [show 1 + t 0 + (aI b + aI c) + 1 = 1 + (t 0 + 1) + (aI b + aI c) by omega]
    exact .three (u1 b hb) (u1 c hc) (u1 f hf) (by omega) (by omega) t1.1 (by omega) t2.1 (by omega)
/-- rows that are changed in place -/
def RowsAt (p R : Addr) (H0 H : Hp) (ms : List (List Int)) : Prop := ∃ gl, H R = some (.lst gl) ∧ gl.Nodup ∧ (∀ q, V.ref q ∈ gl → H0 q = none) ∧ Paired (LA p R H) gl ms
theorem RowsAt.offp {p R : Addr} {H0 H H' : Hp} {ms : List (List Int)} (n : p ≠ R) (o : Off p H H') (h : RowsAt p R H0 H ms) : RowsAt p R H0 H' ms :=
  let ⟨gl, e, nd, f, q⟩ := h; ⟨gl, o _ _ (Ne.symm n) e, nd, f, L2.Paired.mapP q fun _ _ => LA.offp o⟩
theorem RowsAt.same {p R : Addr} {H0 H H' : Hp} {ms : List (List Int)} (s : Same H H') (h : RowsAt p R H0 H ms) : RowsAt p R H0 H' ms :=
  let ⟨gl, e, nd, f, q⟩ := h; ⟨gl, s _ _ e, nd, f, L2.Paired.mapP q fun _ _ => LA.same s⟩
theorem RowsAt.get {p R : Addr} {H0 H : Hp} {ms : List (List Int)} {i : Nat} {r : List Int} (h : RowsAt p R H0 H ms) (e : ms[i]? = some r) :
    ∃ gl q, H R = some (.lst gl) ∧ gl[i]? = some (V.ref q) ∧ H q = some (.lst (r.map V.int)) ∧ q ≠ p ∧ H0 q = none ∧ ∀ r' : List Int, RowsAt p R H0 (upd H q (.lst (r'.map V.int))) (ms.set i r') := by
  obtain ⟨gl, eR, nd, f, hp⟩ := h
  obtain ⟨v, ev, q, rfl, qp, qR, hq⟩ := Paired.getL hp e
  exact ⟨gl, q, eR, ev, hq, qp, f q (List.mem_of_getElem? ev), fun r' => ⟨gl, by rw [L2.upd_ne (Ne.symm qR)]; exact eR, nd, f, la_upd hp nd ev⟩⟩
theorem StAt.offr {p q : Addr} {H : Hp} {o : HO} (n : q ≠ p) (h : StAt H p) : StAt (upd H q o) p := let ⟨s, t, e, h0⟩ := h; ⟨s, t, by rw [L2.upd_ne (Ne.symm n)]; exact e, h0⟩
theorem StAt.same {p : Addr} {H H' : Hp} (s : Same H H') (h : StAt H p) : StAt H' p := let ⟨a, t, e, h0⟩ := h; ⟨a, t, s _ _ e, h0⟩
theorem StAt.ne {p q : Addr} {H : Hp} (h : StAt H p) (n : H q = none) : p ≠ q := let ⟨_, _, e, _⟩ := h; ne_of_none e n

end
end K39
namespace K39
open PySem PySem.Spec PyProof.Rows L2 Gm
open C8 (Cal Met Mak pe_c pe_mt pe_mt0 pe_mk)
section
variable {P : Program} {w : World} {K : PySem.W.Frag} {mg : Str → Option Value} {base : Heap}
def ZL (n : Nat) : List Int := List.replicate n 0
theorem symZ_0 (n : Nat) : SymZ n (List.replicate n (ZL n)) := by
  refine ⟨⟨List.length_replicate, fun r hr => ?_, fun r hr => ?_⟩, fun a b ha hb => ?_, fun a ha => ?_⟩
  · rw [List.eq_of_mem_replicate hr]
    exact List.length_replicate
  · rw [List.eq_of_mem_replicate hr]
    intro x hx
    rw [List.eq_of_mem_replicate hx]
    decide
  · rw [ent_of (r := ZL n) (by rw [List.getElem?_replicate, if_pos ha]), ent_of (r := ZL n) (by rw [List.getElem?_replicate, if_pos hb])]
    unfold ZL
    rw [List.getD_eq_getElem?_getD, List.getD_eq_getElem?_getD, List.getElem?_replicate, List.getElem?_replicate, if_pos ha, if_pos hb]
  · rw [ent_of (r := ZL n) (by rw [List.getElem?_replicate, if_pos ha])]
    unfold ZL
    rw [List.getD_eq_getElem?_getD, List.getElem?_replicate, if_pos ha]
    rfl
def sp_law_gram : Sp := fun vs H Q _ => ∃ (p : Addr), vs = [.ref p, .int 3] ∧ StAt H p ∧ ∀ v n m H', Off p H H' → StAt H' p → LAs p H' v m → Dom n m → Dom n (incM m) → Q v H'

end
end K39
namespace K39
open PySem PySem.Spec PyProof.Rows L2 Gm
open C8 (Cal Met Mak pe_c pe_mt pe_mt0 pe_mk)
section
variable {P : Program} {w : World} {K : PySem.W.Frag} {mg : Str → Option Value} {base : Heap}
/-! ### the law's product -/
def sumF : Nat → (Nat → Int) → Int
  | 0, _ => 0
  | n + 1, f => sumF n f + f n
def prodM (m : List (List Int)) (x y : List Int) (n : Nat) : Int := sumF n fun i => sumF n fun j => x.getD i 0 * ent m i j * y.getD j 0
def sp_law_minor : Sp := fun vs H Q _ => ∃ (v : V) (m : List (List Int)) (n B k : Nat), vs = [v, .int 0, .int (0 + (k : Int))] ∧ LRows H v m ∧ Sq (n + 1) B m ∧ k < n + 1 ∧ n ≤ 5 ∧ ∀ v' H', Same H H' → LRows H' v' (m.tail.map fun r => r.eraseIdx k) → Q v' H'
theorem ok_law_minor (T : Top K mg) (hN : base.NoSeer) (hT : P.given.tree = none) : FnOk P w K mg base CX0 1 T.a_law_minor T.d_law_minor ["rows", "i", "j"] sp_law_minor := by
  refine T.F_law_minor.ok sc_law_minor (fun vs H Q E h => ?_) (fun cdv A outer s H vs Q E hr h => ?_)
  · obtain ⟨v, m, n, B, k, rfl, _⟩ := h
    rfl
  · obtain ⟨v, m, n, B, k, rfl, ⟨a, ws, rfl, hs, hp⟩, sq, hk, hn, q⟩ := h
    refine ⟨_, (pss_one (ps_ret (pe_lc (own := [("row", 3)]) (g := (gName 3)) (by rfl) sc_law_minor.nd (piS K rfl (pe_op op_cat (pe_slice (slLK K rfl) (pv 0) po_none (po_some (pv 1))) (pe_slice (slLK K rfl) (pv 0) (po_some (pe_op op_add (pv 1) pe_int)) po_none))) ((by show BlkOk ["rows", "i", "j", "row"] (defScope s_law_minor) _ _; exact blkOk_by (by decide +kernel))) (fun _ _ _ _ _ => (pg_name (i := 3) sc_law_minor.nd rfl (by first | exact .inl rfl | exact .inr rfl))) (fun _ _ _ _ _ => pts_nil) (fun _ _ _ _ _ => (pe_op op_cat (pe_slice (slLK K rfl) (pv 3) po_none (po_some (pv 2))) (pe_slice (slLK K rfl) (pv 3) (po_some (pe_op op_add (pv 2) pe_int)) po_none)))))), ?_⟩
    have lw := Paired.length hp
    have lm := sq.len
    obtain ⟨r0, mt, rfl⟩ : ∃ r0 mt, m = r0 :: mt := by
      cases m with
      | nil => exact absurd lm (by simp)
      | cons r0 mt => exact ⟨r0, mt, rfl⟩
    obtain ⟨v0, wt, rfl⟩ : ∃ v0 wt, ws = v0 :: wt := by
      cases ws with
      | nil => exact absurd lw (by simp)
      | cons v0 wt => exact ⟨v0, wt, rfl⟩
    have hpt : Paired (LRow H) wt mt := by
      cases hp with
      | cons x y => exact y
    have lwt := Paired.length hpt
    have lmt : mt.length = n := by rw [List.length_cons] at lm; omega
    -- rows[:0] + rows[1:]
    refine ⟨_, rfl, _, rfl, 0, rfl, ?_⟩
    refine sl_lst hs fun p0 n0 => ?_
    have s1 := same_upd (o := .lst (cutV (v0 :: wt) none (some 0))) n0
    have hp0 : (upd H p0 (.lst (cutV (v0 :: wt) none (some 0)))) p0 = some (.lst []) := by
      rw [upd_same, show (0 : Int) = ((0 : Nat) : Int) from rfl, cut_take]
      rfl
    generalize upd H p0 (.lst (cutV (v0 :: wt) none (some 0))) = H1 at s1 hp0 ⊢
    refine ⟨_, rfl, _, rfl, 0, 1, rfl, rfl, _, rfl, ?_⟩
    dsimp only [tNoPart]
    refine sl_lst (s1 _ _ hs) fun p1 n1 => ?_
    have s2 := same_upd (o := .lst (cutV (v0 :: wt) (some (0 + 1)) none)) n1
    have hp1 : (upd H1 p1 (.lst (cutV (v0 :: wt) (some (0 + 1)) none))) p1 = some (.lst wt) := by
      rw [upd_same, show (0 + 1 : Int) = ((1 : Nat) : Int) from rfl, cut_drop]
      rfl
    generalize upd H1 p1 (.lst (cutV (v0 :: wt) (some (0 + 1)) none)) = H2 at s2 hp1 ⊢
    refine ⟨p0, p1, _, _, rfl, rfl, s2 _ _ hp0, hp1, Nat.le_of_lt (small1000 (by rw [List.length_nil]; omega)), fun p2 n2 => ?_⟩
    have s3' := same_upd (o := .lst ([] ++ wt)) n2
    have hp2 : (upd H2 p2 (.lst ([] ++ wt))) p2 = some (.lst wt) := upd_same
    generalize upd H2 p2 (.lst ([] ++ wt)) = H3 at s3' hp2 ⊢
    have s3 := s1.trans (s2.trans s3')
    refine ⟨p2, wt, rfl, .inl (.inl (.inl hp2)), fun J G W hG D hD => ?_⟩
    have lrest : (mt.map fun r => r.eraseIdx k).length = n := by rw [List.length_map, lmt]
    refine lc_all W hD (by rw [lwt, lmt]; omega) (fun H4 s4 => hG H4 fun b _ o => s4 b o) (fun i v H4 => ∃ r, (mt.map fun r => r.eraseIdx k)[i]? = some r ∧ ∃ p, v = V.ref p ∧ p ≠ D ∧ H4 p = some (.lst (r.map V.int))) lmono ?_ gm_name ?_
    · rintro i x H4 H4' acc Ko hi s4 eD ⟨rfl, ex⟩ kc
      obtain ⟨r, er, b, rfl, hb⟩ := Paired.getR hpt ex
      have hrl := sq.row r (List.mem_cons_of_mem _ (List.mem_of_getElem? er))
      have hb4 := (s3.trans s4) _ _ hb
      refine ⟨rfl, ?_⟩
      refine ⟨_, rfl, _, rfl, 0 + (k : Int), rfl, ?_⟩
      refine sl_lst hb4 fun p2 n2 => ?_
      have s5 := same_upd (o := .lst (cutV (r.map V.int) none (some (0 + (k : Int))))) n2
      have hp2 : (upd H4' p2 (.lst (cutV (r.map V.int) none (some (0 + (k : Int)))))) p2 = some (.lst ((r.map V.int).take k)) := by
        rw [upd_same, Int.zero_add, cut_take]
      generalize upd H4' p2 (.lst (cutV (r.map V.int) none (some (0 + (k : Int))))) = H5 at s5 hp2 ⊢
      refine ⟨_, rfl, _, rfl, 0 + (k : Int), 1, rfl, rfl, _, rfl, ?_⟩
      dsimp only [tNoPart]
      refine sl_lst (s5 _ _ hb4) fun p3 n3 => ?_
      have s6 := same_upd (o := .lst (cutV (r.map V.int) (some (0 + (k : Int) + 1)) none)) n3
      have hp3 : (upd H5 p3 (.lst (cutV (r.map V.int) (some (0 + (k : Int) + 1)) none))) p3 = some (.lst ((r.map V.int).drop (k + 1))) := by
        rw [upd_same, show (0 + (k : Int) + 1) = ((k + 1 : Nat) : Int) by omega, cut_drop]
      generalize upd H5 p3 (.lst (cutV (r.map V.int) (some (0 + (k : Int) + 1)) none)) = H6 at s6 hp3 ⊢
      refine ⟨p2, p3, _, _, rfl, rfl, s6 _ _ hp2, hp3, Nat.le_of_lt (small1000 (by simp only [List.length_take, List.length_drop, List.length_map]; omega)), fun p4 n4 => ?_⟩
      have s7 := same_upd (o := .lst ((r.map V.int).take k ++ (r.map V.int).drop (k + 1))) n4
      have eD6 := s6 _ _ (s5 _ _ eD)
      refine kc _ _ (s5.trans (s6.trans s7)) ⟨r.eraseIdx k, by rw [List.getElem?_map, er]; rfl, p4, rfl, ?_, ?_⟩
      · rintro rfl
        rw [eD6] at n4
        cases n4
      · rw [upd_same, ← erase_eq, List.map_append, List.map_take, List.map_drop]
    · intro H4 l s4 eD hpl
      exact q (.ref D) H4 (s3.trans s4) (lrows_of (by show wt.length = (List.map (fun r => r.eraseIdx k) mt).length; rw [lrest, lwt, lmt]) eD hpl)
theorem cal_law_minor (T : Top K mg) (hN : base.NoSeer) (hT : P.given.tree = none) : Cal P w K mg base 1 "_law_minor" sp_law_minor [] := ⟨⟨_, _, _, [], ok_law_minor T hN hT, T.g_law_minor, T.F_law_minor.kp, T.b_law_minor, .nil⟩⟩
def sp_det (n : Nat) : Sp := fun vs H Q _ => ∃ v m B, vs = [v] ∧ LRows H v m ∧ Sq n B m ∧ B ≤ 1000000 ∧ ∀ H', Same H H' → Q (.int (detL n m)) H'
theorem ok_det (T : Top K mg) (hN : base.NoSeer) (hT : P.given.tree = none) : ∀ n, n ≤ 5 → FnOk P w K mg base CX0 (n + 1) T.a_law_determinant T.d_law_determinant ["rows"] (sp_det n)
  | 0, _ => by
    refine T.F_law_determinant.ok sc_law_determinant (fun vs H Q E h => ?_) (fun cdv A outer s H vs Q E hr h => ?_)
    · obtain ⟨v, m, B, rfl, _⟩ := h
      rfl
    · obtain ⟨v, m, B, rfl, ⟨a, ws, rfl, hs, hp⟩, sq, hB, q⟩ := h
      refine ⟨_, (pss_cons (ps_if (pt_cmpR op_eq (pe_callB (lenS K rfl) (by rfl) T.z_len (by decide +kernel) (pa_cons (pv 0) pa_nil)) pe_int (nomark _))
      (pss_one (ps_ret pe_int))
      pss_nil)
      (pss_cons ps_never
      (pss_cons ps_never
      (pss_one ps_never)))), ?_⟩
      have lw := Paired.length hp
      have lm := sq.len
      refine ⟨_, rfl, a, _, rfl, .inl (.inl (.inl hs)), rfl, _, rfl, ?_⟩
      rw [show decide (V.int ((ws.length : Nat) : Int) = V.int 0) = true from decide_eq_true (by rw [lw, lm]; rfl)]
      refine iteT ?_
      exact q H (Same.refl _)
  | n + 1, hn8 => by
    have IH := ok_det T hN hT n (by omega)
    have cself : Cal P w K mg base (n + 1) "_law_determinant" (sp_det n) [] := ⟨⟨_, _, _, [], IH, T.g_law_determinant, T.F_law_determinant.kp, T.b_law_determinant, .nil⟩⟩
    refine T.F_law_determinant.ok sc_law_determinant (fun vs H Q E h => ?_) (fun cdv A outer s H vs Q E hr h => ?_)
    · obtain ⟨v, m, B, rfl, _⟩ := h
      rfl
    · obtain ⟨v, m, B, rfl, ⟨a, ws, rfl, hs, hp⟩, sq, hB, q⟩ := h
      have lw := Paired.length hp
      have lm := sq.len
      obtain ⟨r0, er0⟩ : ∃ r0, m[0]? = some r0 := ⟨_, List.getElem?_eq_getElem (by omega)⟩
      obtain ⟨v0, ev0, b0, rfl, hb0⟩ := Paired.getL hp er0
      have hr0 := sq.row r0 (List.mem_of_getElem? er0)
      have eh : m.headD [] = r0 := by
        cases m with
        | nil => cases er0
        | cons r m => exact Option.some.inj er0
      refine ⟨_, (pss_cons (ps_if (pt_cmpR op_eq (pe_callB (lenS K rfl) (by rfl) T.z_len (by decide +kernel) (pa_cons (pv 0) pa_nil)) pe_int (nomark _))
      (pss_one (ps_ret pe_int))
      pss_nil)
      (pss_cons (ps_set (i := 1) sc_law_determinant.nd rfl (by first | exact .inl rfl | exact .inr rfl) pe_int)
      (pss_cons (ps_for PassesOwn.never rfl (pi_range1 (by rfl) T.z_range (pa_cons (pe_callB (lenS K rfl) (by rfl) T.z_len (by decide +kernel) (pa_cons (pv 0) pa_nil)) pa_nil)) (pg_name (i := 2) sc_law_determinant.nd rfl (by first | exact .inl rfl | exact .inr rfl))
      (pss_cons (ps_set (i := 3) sc_law_determinant.nd rfl (by first | exact .inl rfl | exact .inr rfl) (pe_op op_mulX (pe_ix (ixL K rfl) (pe_ix (ixL K rfl) (pv 0) pe_int (fun _ _ => rfl)) (pv 2) (fun _ _ => rfl)) (pe_c cself hr (Nat.le_refl _) (by rfl) (pa_cons (pe_c (cal_law_minor T hN hT) hr (by omega) (by rfl) (pa_cons (pv 0) (pa_cons pe_int (pa_cons (pv 2) pa_nil)))) pa_nil))))
      (pss_one (ps_set (i := 1) sc_law_determinant.nd rfl (by first | exact .inl rfl | exact .inr rfl) (pe_ifExp (pt_cmpR op_eq (pe_op op_mod (pv 2) pe_int) pe_int (nomark _)) (pe_op op_add (pv 1) (pv 3)) (pe_op op_sub (pv 1) (pv 3)))))))
      (pss_one (ps_ret (pv 1)))))), ?_⟩
      refine ⟨_, rfl, a, _, rfl, .inl (.inl (.inl hs)), rfl, _, rfl, ?_⟩
      rw [show decide (V.int ((ws.length : Nat) : Int) = V.int 0) = false from decide_eq_false fun z => by have := V.int.inj z; omega]
      refine iteF ?_
      refine ⟨_, rfl, a, _, rfl, .inl (.inl (.inl hs)), _, rfl, by omega, by rw [lw, lm]; omega, ?_⟩
      rw [show ((ws.length : Nat) : Int).toNat = n + 1 by rw [lw, lm]; exact Int.toNat_natCast _]
      refine for_it walk_range (fun k σ H2 => ∃ y3 y4, σ = [some (.ref a), some (.int (((List.range (n + 1)).map (detT n (detL n) m)).take k).sum), y3, y4] ∧ Same H H2) ⟨_, _, rfl, Same.refl _⟩ (fun _ _ _ _ _ => trivial) ?_ ?_
      · rintro k x σ H2 H2' hk ⟨y3, y4, rfl, s2⟩ ⟨rfl, rfl⟩
        have hk0 : k < r0.length := by omega
        have et : ((List.range (n + 1)).map (detT n (detL n) m))[k]? = some (detT n (detL n) m k) := by
          rw [List.getElem?_map, List.getElem?_range hk]
          rfl
        have hs2 := s2 _ _ hs
        have hp2 := L2.Paired.mapP hp fun _ _ => LRow.same s2
        refine ⟨_, rfl, a, _, _, _, rfl, rfl, .inl (.inl hs2), atI_nat (j := 0) ev0, _, rfl, b0, _, _, _, rfl, rfl, .inl (.inl (s2 _ _ hb0)), at_of (j := k) (by omega) (ints_at (List.getElem?_eq_getElem hk0)), ?_⟩
        refine ⟨_, rfl, _, rfl, .ref a, m, n, B, k, rfl, ⟨a, ws, rfl, hs2, hp2⟩, sq, hk, by omega, fun v' H3 s3 h3 => ?_⟩
        have sqt : Sq n B (m.tail.map fun r => r.eraseIdx k) := sq_tail sq hk
        refine ⟨v', _, B, rfl, h3, sqt, hB, fun H4 s4 => ?_⟩
        have bk : (r0[k]).natAbs < 2 ^ B := sq.bits r0 (List.mem_of_getElem? er0) _ (List.getElem_mem hk0)
        have bd := detL_le (by omega : n ≤ 10) sqt
        have hnB : n * (B + 8) ≤ 6 * (1000000 + 8) := Nat.mul_le_mul (by omega) (by omega)
        refine ⟨_, _, rfl, rfl, mulx_ok bk bd (by omega), ?_⟩
        refine ⟨_, rfl, _, 2, rfl, rfl, by show (0 : Int) < 2; decide, rfl, _, rfl, ?_⟩
        have key : (((List.range (n + 1)).map (detT n (detL n) m)).take (k + 1)).sum = (((List.range (n + 1)).map (detT n (detL n) m)).take k).sum + (1 - 2 * ((k : Int) % 2)) * (r0[k] * detL n (m.tail.map fun r => r.eraseIdx k)) := by
          rw [sum_take et]
          unfold detT
          rw [eh, List.getD_eq_getElem?_getD, List.getElem?_eq_getElem hk0, ← Int.mul_assoc]
          rfl
        by_cases h2 : (k : Int) % 2 = 0
        · rw [show decide (V.int ((0 + (k : Int)) % 2) = V.int 0) = true from decide_eq_true (by rw [Int.zero_add, h2])]
          refine iteT ?_
          refine ⟨_, rfl, _, rfl, _, _, rfl, rfl, some (.int (0 + (k : Int))), some (.int (r0[k] * detL n (m.tail.map fun r => r.eraseIdx k))), ?_, s2.trans (s3.trans s4)⟩
          rw [key, h2]
          simp only [Int.mul_zero, Int.sub_zero, Int.one_mul]
          rfl
        · rw [show decide (V.int ((0 + (k : Int)) % 2) = V.int 0) = false from decide_eq_false fun z => by have := V.int.inj z; omega]
          refine iteF ?_
          refine ⟨_, rfl, _, rfl, _, _, rfl, rfl, some (.int (0 + (k : Int))), some (.int (r0[k] * detL n (m.tail.map fun r => r.eraseIdx k))), ?_, s2.trans (s3.trans s4)⟩
          rw [key, show (1 - 2 * ((k : Int) % 2)) = -1 by omega, Int.neg_mul, Int.one_mul, ← Int.sub_eq_add_neg]
          rfl
      · rintro σ H2 ⟨y3, y4, rfl, s2⟩
        rw [List.take_of_length_le (by rw [List.length_map, List.length_range]; exact Nat.le_refl _)]
        exact ⟨_, rfl, q _ s2⟩
def sp_law_determinant : Sp := fun vs H Q E => ∃ n, n ≤ 5 ∧ sp_det n vs H Q E
theorem ok_law_determinant (T : Top K mg) (hN : base.NoSeer) (hT : P.given.tree = none) : FnOk P w K mg base CX0 10 T.a_law_determinant T.d_law_determinant ["rows"] sp_law_determinant :=
  ⟨fun vs H Q E ⟨n, hn, v, m, B, e, _⟩ => by rw [e]; rfl, fun A outer s H args us vs Q E hr e b v ⟨n, hn, h⟩ => (ok_det T hN hT n hn).run A outer s H args us vs Q E (hr.mono (by omega)) e b v h⟩
theorem cal_law_determinant (T : Top K mg) (hN : base.NoSeer) (hT : P.given.tree = none) : Cal P w K mg base 10 "_law_determinant" sp_law_determinant [] := ⟨⟨_, _, _, [], ok_law_determinant T hN hT, T.g_law_determinant, T.F_law_determinant.kp, T.b_law_determinant, .nil⟩⟩

end
end K39
namespace K39
open PySem PySem.Spec PyProof.Rows L2 Gm
open C8 (Cal Met Mak pe_c pe_mt pe_mt0 pe_mk)
section
variable {P : Program} {w : World} {K : PySem.W.Frag} {mg : Str → Option Value} {base : Heap}
/-! ### what the law's Gram matrices are -/
theorem U1.a01 {x : Int} (h : U1 x) : 0 ≤ aI x ∧ aI x ≤ 1 ∧ x.natAbs ≤ 1 := by
  rcases h with rfl | rfl | rfl <;> decide
theorem pos2 : ∀ x : Fin 3, ∀ t u : Fin 4, 0 < D2 (1 + ((t.val : Nat) : Int) + aI (((x.val : Nat) : Int) - 1)) (((x.val : Nat) : Int) - 1) (((x.val : Nat) : Int) - 1) (1 + ((u.val : Nat) : Int) + aI (((x.val : Nat) : Int) - 1)) := by decide +kernel
theorem pos3 : ∀ x y z : Fin 3, ∀ t u v : Fin 4, 0 < D3 (1 + ((t.val : Nat) : Int) + (aI (((x.val : Nat) : Int) - 1) + aI (((y.val : Nat) : Int) - 1))) (((x.val : Nat) : Int) - 1) (((y.val : Nat) : Int) - 1)
    (((x.val : Nat) : Int) - 1) (1 + ((u.val : Nat) : Int) + (aI (((x.val : Nat) : Int) - 1) + aI (((z.val : Nat) : Int) - 1))) (((z.val : Nat) : Int) - 1)
    (((y.val : Nat) : Int) - 1) (((z.val : Nat) : Int) - 1) (1 + ((v.val : Nat) : Int) + (aI (((y.val : Nat) : Int) - 1) + aI (((z.val : Nat) : Int) - 1))) := by decide +kernel
theorem U1.fin {x : Int} (h : U1 x) : ∃ i : Fin 3, x = ((i.val : Nat) : Int) - 1 := by
  rcases h with rfl | rfl | rfl
  · exact ⟨0, rfl⟩
  · exact ⟨1, rfl⟩
  · exact ⟨2, rfl⟩
theorem fin4 {t : Int} (h0 : 0 ≤ t) (h3 : t ≤ 3) : ∃ i : Fin 4, t = ((i.val : Nat) : Int) := ⟨⟨t.toNat, by omega⟩, by show t = ((t.toNat : Nat) : Int); omega⟩
theorem Dom.gram {n : Nat} {m : List (List Int)} (h : Dom n m) : Gram n m := by
  cases h with
  | @one t t0 t3 =>
    refine ⟨⟨rfl, fun r hr => ?_, fun r hr => ?_⟩, by decide, by decide, rfl, ?_⟩
    · rw [List.mem_singleton.mp hr]
      rfl
    · rw [List.mem_singleton.mp hr]
      intro x hx
      rw [List.mem_singleton.mp hx]
      show _ < 1024
      omega
    · show (decide (0 < detL 1 [[1 + t]]) && true) = true
      rw [detL1, decide_eq_true (show (0 : Int) < 1 + t by omega)]
      rfl
  | @two x t u hx t0 t3 u0 u3 =>
    have ax := hx.a01
    refine ⟨⟨rfl, fun r hr => ?_, fun r hr => ?_⟩, by decide, by decide, rfl, ?_⟩
    · simp only [List.mem_cons, List.not_mem_nil, or_false] at hr
      rcases hr with rfl | rfl <;> rfl
    · simp only [List.mem_cons, List.not_mem_nil, or_false] at hr
      rcases hr with rfl | rfl
      all_goals
        intro y hy
        simp only [List.mem_cons, List.not_mem_nil, or_false] at hy
        show _ < 1024
        rcases hy with rfl | rfl <;> omega
    · have hp : 0 < D2 (1 + t + aI x) x x (1 + u + aI x) := by
        obtain ⟨i, rfl⟩ := hx.fin
        obtain ⟨a, rfl⟩ := fin4 t0 t3
        obtain ⟨b, rfl⟩ := fin4 u0 u3
        exact pos2 i a b
      show (decide (0 < detL 1 [[1 + t + aI x]]) && (decide (0 < detL 2 [[1 + t + aI x, x], [x, 1 + u + aI x]]) && true)) = true
      rw [detL1, detL2, decide_eq_true hp, decide_eq_true (show (0 : Int) < 1 + t + aI x by omega)]
      rfl
  | @three x y z t u v hx hy hz t0 t3 u0 u3 v0 v3 =>
    have ax := hx.a01
    have ay := hy.a01
    have az := hz.a01
    refine ⟨⟨rfl, fun r hr => ?_, fun r hr => ?_⟩, by decide, by decide, rfl, ?_⟩
    · simp only [List.mem_cons, List.not_mem_nil, or_false] at hr
      rcases hr with rfl | rfl | rfl <;> rfl
    · simp only [List.mem_cons, List.not_mem_nil, or_false] at hr
      rcases hr with rfl | rfl | rfl
      all_goals
        intro w hw
        simp only [List.mem_cons, List.not_mem_nil, or_false] at hw
        show _ < 1024
        rcases hw with rfl | rfl | rfl <;> omega
    · have hp : 0 < D3 (1 + t + (aI x + aI y)) x y x (1 + u + (aI x + aI z)) z y z (1 + v + (aI y + aI z)) := by
        obtain ⟨i, rfl⟩ := hx.fin
        obtain ⟨j, rfl⟩ := hy.fin
        obtain ⟨k, rfl⟩ := hz.fin
        obtain ⟨a, rfl⟩ := fin4 t0 t3
        obtain ⟨b, rfl⟩ := fin4 u0 u3
        obtain ⟨c, rfl⟩ := fin4 v0 v3
        exact pos3 i j k a b c
      have hp2 : 0 < D2 (1 + t + (aI x + aI y)) x x (1 + u + (aI x + aI z)) := by
        have e : D2 (1 + t + (aI x + aI y)) x x (1 + u + (aI x + aI z)) = D2 (1 + t + aI x) x x (1 + u + aI x) + (aI y * (1 + u + aI x) + aI z * (1 + t + aI x) + aI y * aI z) := by
          unfold D2
          grind
        have h0 : 0 < D2 (1 + t + aI x) x x (1 + u + aI x) := by
          obtain ⟨i, rfl⟩ := hx.fin
          obtain ⟨a, rfl⟩ := fin4 t0 t3
          obtain ⟨b, rfl⟩ := fin4 u0 u3
          exact pos2 i a b
        have h1 := Int.mul_nonneg ay.1 (show 0 ≤ 1 + u + aI x by omega)
        have h2 := Int.mul_nonneg az.1 (show 0 ≤ 1 + t + aI x by omega)
        have h3 := Int.mul_nonneg ay.1 az.1
        rw [e]
        omega
      show (decide (0 < detL 1 [[1 + t + (aI x + aI y)]]) && (decide (0 < detL 2 [[1 + t + (aI x + aI y), x], [x, 1 + u + (aI x + aI z)]]) && (decide (0 < detL 3 [[1 + t + (aI x + aI y), x, y], [x, 1 + u + (aI x + aI z), z], [y, z, 1 + v + (aI y + aI z)]]) && true))) = true
      rw [detL1, detL2, detL3, decide_eq_true hp, decide_eq_true hp2, decide_eq_true (show (0 : Int) < 1 + t + (aI x + aI y) by omega)]
      rfl
theorem Dom.n3 {n : Nat} {m : List (List Int)} (h : Dom n m) : 0 < n ∧ n ≤ 3 := by cases h <;> exact ⟨by decide, by decide⟩
theorem len1 {v : List Int} (h : v.length = 1) : ∃ a, v = [a] := by
  match v, h with
  | [a], _ => exact ⟨a, rfl⟩
theorem len2 {v : List Int} (h : v.length = 2) : ∃ a b, v = [a, b] := by
  match v, h with
  | [a, b], _ => exact ⟨a, b, rfl⟩
theorem len3 {v : List Int} (h : v.length = 3) : ∃ a b c, v = [a, b, c] := by
  match v, h with
  | [a, b, c], _ => exact ⟨a, b, c, rfl⟩
theorem Dom.prod {n : Nat} {m : List (List Int)} {x y : List Int} (h : Dom n m) (hx : x.length = n) (hy : y.length = n) : dotI (timesM m x) y = prodM m x y n ∧ dotI (timesM m y) x = prodM m x y n := by
  cases h with
  | @one t t0 t3 =>
    obtain ⟨a, rfl⟩ := len1 hx
    obtain ⟨b, rfl⟩ := len1 hy
    generalize 1 + t = d
    show ((d * a + 0) * b + 0 = 0 + (0 + a * d * b)) ∧ ((d * b + 0) * a + 0 = 0 + (0 + a * d * b))
    constructor <;> grind
  | @two p t u hp t0 t3 u0 u3 =>
    obtain ⟨a, b, rfl⟩ := len2 hx
    obtain ⟨c, d, rfl⟩ := len2 hy
    generalize 1 + t + aI p = e
    generalize 1 + u + aI p = f
    show ((e * a + (p * b + 0)) * c + ((p * a + (f * b + 0)) * d + 0) = 0 + (0 + a * e * c + a * p * d) + (0 + b * p * c + b * f * d)) ∧ ((e * c + (p * d + 0)) * a + ((p * c + (f * d + 0)) * b + 0) = 0 + (0 + a * e * c + a * p * d) + (0 + b * p * c + b * f * d))
    constructor <;> grind
  | @three p q r t u v hp hq hr t0 t3 u0 u3 v0 v3 =>
    obtain ⟨a, b, c, rfl⟩ := len3 hx
    obtain ⟨d, e, f, rfl⟩ := len3 hy
    generalize 1 + t + (aI p + aI q) = g
    generalize 1 + u + (aI p + aI r) = h
    generalize 1 + v + (aI q + aI r) = k
    show ((g * a + (p * b + (q * c + 0))) * d + ((p * a + (h * b + (r * c + 0))) * e + ((q * a + (r * b + (k * c + 0))) * f + 0)) = 0 + (0 + a * g * d + a * p * e + a * q * f) + (0 + b * p * d + b * h * e + b * r * f) + (0 + c * q * d + c * r * e + c * k * f)) ∧ ((g * d + (p * e + (q * f + 0))) * a + ((p * d + (h * e + (r * f + 0))) * b + ((q * d + (r * e + (k * f + 0))) * c + 0)) = 0 + (0 + a * g * d + a * p * e + a * q * f) + (0 + b * p * d + b * h * e + b * r * f) + (0 + c * q * d + c * r * e + c * k * f))
    constructor <;> grind
theorem mulSelf (a : Int) : 0 ≤ a * a := by
  rcases Int.le_total 0 a with h | h
  · exact Int.mul_nonneg h h
  · have := Int.mul_nonneg (show 0 ≤ -a by omega) (show 0 ≤ -a by omega)
    rw [Int.neg_mul_neg] at this
    exact this
theorem pairNN {x : Int} (h : U1 x) (a b : Int) : 0 ≤ aI x * (a * a) + aI x * (b * b) + 2 * (x * (a * b)) := by
  have h1 := mulSelf (a - b)
  have h2 := mulSelf (a + b)
  have e1 : (a - b) * (a - b) = a * a + b * b - 2 * (a * b) := by grind
  have e2 : (a + b) * (a + b) = a * a + b * b + 2 * (a * b) := by grind
  rw [e1] at h1
  rw [e2] at h2
  rcases h with rfl | rfl | rfl
  · show 0 ≤ 1 * (a * a) + 1 * (b * b) + 2 * (-1 * (a * b))
    omega
  · show 0 ≤ 0 * (a * a) + 0 * (b * b) + 2 * (0 * (a * b))
    omega
  · show 0 ≤ 1 * (a * a) + 1 * (b * b) + 2 * (1 * (a * b))
    omega
theorem sq_pos {a : Int} (h : a ≠ 0) : 0 < a * a := by
  rcases Int.lt_or_gt_of_ne h with h | h
  · exact Int.mul_pos_of_neg_of_neg h h
  · exact Int.mul_pos h h
theorem any_ne (l : List Int) (p : Bool) (h : p = true ↔ ∃ z ∈ l, z ≠ 0) : l.any (fun z => z != 0) = p := by
  rw [Bool.eq_iff_iff, List.any_eq_true, h]
  constructor
  · rintro ⟨z, hz, e⟩
    exact ⟨z, hz, by simpa using e⟩
  · rintro ⟨z, hz, e⟩
    exact ⟨z, hz, by simpa using e⟩
theorem Dom.norm {n : Nat} {m : List (List Int)} {x : List Int} (h : Dom n m) (hx : x.length = n) : 0 ≤ prodM m x x n ∧ x.any (fun z => z != 0) = decide (0 < prodM m x x n) := by
  cases h with
  | @one t t0 t3 =>
    obtain ⟨a, rfl⟩ := len1 hx
    have e : prodM [[1 + t]] [a] [a] 1 = a * a + t * (a * a) := by
      show 0 + (0 + a * (1 + t) * a) = _
      grind
    have h1 := Int.mul_nonneg t0 (mulSelf a)
    have h2 := mulSelf a
    rw [e]
    refine ⟨by omega, any_ne _ _ ?_⟩
    rw [decide_eq_true_iff]
    constructor
    · intro h
      refine ⟨a, by simp, fun e => ?_⟩
      rw [e] at h
      simp at h
    · rintro ⟨z, hz, h⟩
      have ez : z = a := by simpa using hz
      rw [ez] at h
      have := sq_pos h
      omega
  | @two p t u hp t0 t3 u0 u3 =>
    obtain ⟨a, b, rfl⟩ := len2 hx
    have e : prodM [[1 + t + aI p, p], [p, 1 + u + aI p]] [a, b] [a, b] 2 = a * a + b * b + t * (a * a) + u * (b * b) + (aI p * (a * a) + aI p * (b * b) + 2 * (p * (a * b))) := by
      generalize aI p = g
      show 0 + (0 + a * (1 + t + g) * a + a * p * b) + (0 + b * p * a + b * (1 + u + g) * b) = _
      grind
    have h1 := Int.mul_nonneg t0 (mulSelf a)
    have h2 := Int.mul_nonneg u0 (mulSelf b)
    have h3 := mulSelf a
    have h4 := mulSelf b
    have h5 := pairNN hp a b
    rw [e]
    refine ⟨by omega, any_ne _ _ ?_⟩
    rw [decide_eq_true_iff]
    constructor
    · intro h
      by_cases ha : a = 0
      · refine ⟨b, by simp, fun e => ?_⟩
        rw [e, ha] at h
        simp at h
      · exact ⟨a, by simp, ha⟩
    · rintro ⟨z, hz, h⟩
      have ez : z = a ∨ z = b := by simpa using hz
      rcases ez with rfl | rfl
      · have := sq_pos h
        omega
      · have := sq_pos h
        omega
  | @three p q r t u v hp hq hr t0 t3 u0 u3 v0 v3 =>
    obtain ⟨a, b, c, rfl⟩ := len3 hx
    have e : prodM [[1 + t + (aI p + aI q), p, q], [p, 1 + u + (aI p + aI r), r], [q, r, 1 + v + (aI q + aI r)]] [a, b, c] [a, b, c] 3 = a * a + b * b + c * c + t * (a * a) + u * (b * b) + v * (c * c) + (aI p * (a * a) + aI p * (b * b) + 2 * (p * (a * b))) + (aI q * (a * a) + aI q * (c * c) + 2 * (q * (a * c))) + (aI r * (b * b) + aI r * (c * c) + 2 * (r * (b * c))) := by
      generalize aI p = g
      generalize aI q = h
      generalize aI r = k
      show 0 + (0 + a * (1 + t + (g + h)) * a + a * p * b + a * q * c) + (0 + b * p * a + b * (1 + u + (g + k)) * b + b * r * c) + (0 + c * q * a + c * r * b + c * (1 + v + (h + k)) * c) = _
      grind
    have h1 := Int.mul_nonneg t0 (mulSelf a)
    have h2 := Int.mul_nonneg u0 (mulSelf b)
    have h22 := Int.mul_nonneg v0 (mulSelf c)
    have h3 := mulSelf a
    have h4 := mulSelf b
    have h44 := mulSelf c
    have h5 := pairNN hp a b
    have h6 := pairNN hq a c
    have h7 := pairNN hr b c
    rw [e]
    refine ⟨by omega, any_ne _ _ ?_⟩
    rw [decide_eq_true_iff]
    constructor
    · intro h
      by_cases ha : a = 0
      · by_cases hb : b = 0
        · refine ⟨c, by simp, fun e => ?_⟩
          rw [e, ha, hb] at h
          simp at h
        · exact ⟨b, by simp, hb⟩
      · exact ⟨a, by simp, ha⟩
    · rintro ⟨z, hz, h⟩
      have ez : z = a ∨ z = b ∨ z = c := by simpa using hz
      rcases ez with rfl | rfl | rfl
      · have := sq_pos h
        omega
      · have := sq_pos h
        omega
      · have := sq_pos h
        omega
theorem Dom.inc_ne {n : Nat} {m : List (List Int)} (h : Dom n m) : m ≠ incM m := by
  cases h with
  | @one t t0 t3 =>
    intro e
    have e2 : [[1 + t]] = [[1 + t + 1]] := e
    simp at e2
    omega
  | @two x t u hx t0 t3 u0 u3 =>
    intro e
    have e2 : [[1 + t + aI x, x], [x, 1 + u + aI x]] = [[1 + t + aI x + 1, x], [x, 1 + u + aI x]] := e
    simp at e2
    omega
  | @three x y z t u v hx hy hz t0 t3 u0 u3 v0 v3 =>
    intro e
    have e2 : [[1 + t + (aI x + aI y), x, y], [x, 1 + u + (aI x + aI z), z], [y, z, 1 + v + (aI y + aI z)]] = [[1 + t + (aI x + aI y) + 1, x, y], [x, 1 + u + (aI x + aI z), z], [y, z, 1 + v + (aI y + aI z)]] := e
    simp at e2
    omega

end
end K39
namespace K39
open PySem PySem.Spec PyProof.Rows L2 Gm
open C8 (Cal Met Mak pe_c pe_mt pe_mt0 pe_mk)
section
variable {P : Program} {w : World} {K : PySem.W.Frag} {mg : Str → Option Value} {base : Heap}
theorem pos_1 {a : Int} : posM 1 [[a]] = true ↔ 0 < a := by
  show (decide (0 < detL 1 [[a]]) && true) = true ↔ _
  rw [detL1, Bool.and_true, decide_eq_true_iff]
theorem pos_2 {a b c d : Int} : posM 2 [[a, b], [c, d]] = true ↔ 0 < a ∧ 0 < D2 a b c d := by
  show (decide (0 < detL 1 [[a]]) && (decide (0 < detL 2 [[a, b], [c, d]]) && true)) = true ↔ _
  rw [detL1, detL2, Bool.and_true, Bool.and_eq_true, decide_eq_true_iff, decide_eq_true_iff]
theorem pos_3 {a b c d e f g k l : Int} : posM 3 [[a, b, c], [d, e, f], [g, k, l]] = true ↔ 0 < a ∧ 0 < D2 a b d e ∧ 0 < D3 a b c d e f g k l := by
  show (decide (0 < detL 1 [[a]]) && (decide (0 < detL 2 [[a, b], [d, e]]) && (decide (0 < detL 3 [[a, b, c], [d, e, f], [g, k, l]]) && true))) = true ↔ _
  rw [detL1, detL2, detL3, Bool.and_true, Bool.and_eq_true, Bool.and_eq_true, decide_eq_true_iff, decide_eq_true_iff, decide_eq_true_iff]
/-! the adjugate, written out -/
theorem adj_1 (a : Int) : adjM 0 [[a]] = [[1]] := rfl
theorem sm0 {n i j : Nat} {m : List (List Int)} (h : ¬ (i + j) % 2 = 1) : sminor n m i j = bare n 1 1 (cutM m i j) := if_neg h
theorem sm1 {n i j : Nat} {m : List (List Int)} (h : (i + j) % 2 = 1) : sminor n m i j = -bare n 1 1 (cutM m i j) := if_pos h
theorem adj_2 (a b c d : Int) : adjM 1 [[a, b], [c, d]] = [[d, -b], [-c, a]] := by
  show [[sminor 1 _ 0 0, sminor 1 _ 1 0], [sminor 1 _ 0 1, sminor 1 _ 1 1]] = _
  rw [sm0 (i := 0) (j := 0) (by decide), sm1 (i := 1) (j := 0) (by decide), sm1 (i := 0) (j := 1) (by decide), sm0 (i := 1) (j := 1) (by decide)]
  show [[bare 1 1 1 [[d]], -bare 1 1 1 [[b]]], [-bare 1 1 1 [[c]], bare 1 1 1 [[a]]]] = _
  rw [bare1, bare1, bare1, bare1, Int.one_mul, Int.one_mul, Int.one_mul, Int.one_mul]
theorem b2 (a b c d : Int) : bare 2 1 1 [[a, b], [c, d]] = D2 a b c d := by
  rw [bare2 1 1 a b c d (D2 a b c d) (by decide) (Int.one_mul _).symm, Int.one_mul]
theorem adj_3 (a b c d e f g k l : Int) : adjM 2 [[a, b, c], [d, e, f], [g, k, l]] = [[D2 e f k l, -D2 b c k l, D2 b c e f], [-D2 d f g l, D2 a c g l, -D2 a c d f], [D2 d e g k, -D2 a b g k, D2 a b d e]] := by
  show [[sminor 2 _ 0 0, sminor 2 _ 1 0, sminor 2 _ 2 0], [sminor 2 _ 0 1, sminor 2 _ 1 1, sminor 2 _ 2 1], [sminor 2 _ 0 2, sminor 2 _ 1 2, sminor 2 _ 2 2]] = _
  rw [sm0 (i := 0) (j := 0) (by decide), sm1 (i := 1) (j := 0) (by decide), sm0 (i := 2) (j := 0) (by decide), sm1 (i := 0) (j := 1) (by decide), sm0 (i := 1) (j := 1) (by decide), sm1 (i := 2) (j := 1) (by decide), sm0 (i := 0) (j := 2) (by decide), sm1 (i := 1) (j := 2) (by decide), sm0 (i := 2) (j := 2) (by decide)]
  show [[bare 2 1 1 [[e, f], [k, l]], -bare 2 1 1 [[b, c], [k, l]], bare 2 1 1 [[b, c], [e, f]]], [-bare 2 1 1 [[d, f], [g, l]], bare 2 1 1 [[a, c], [g, l]], -bare 2 1 1 [[a, c], [d, f]]], [bare 2 1 1 [[d, e], [g, k]], -bare 2 1 1 [[a, b], [g, k]], bare 2 1 1 [[a, b], [d, e]]]] = _
  simp only [b2]
/-- symmetric, positive, written out -/
inductive Fm : Nat → List (List Int) → Prop
  | one {a : Int} : 0 < a → Fm 1 [[a]]
  | two {a b d : Int} : 0 < a → 0 < d → 0 < D2 a b b d → Fm 2 [[a, b], [b, d]]
  | three {a b c d e f : Int} : 0 < a → 0 < D2 a b b d → 0 < D3 a b c b d e c e f → 0 < f → 0 < D2 a c c f → 0 < D2 d e e f → Fm 3 [[a, b, c], [b, d, e], [c, e, f]]
theorem pos_of_mul {x y : Int} (h : 0 < x * y) (hx : 0 < x) : 0 < y := by
  rcases Int.lt_trichotomy y 0 with h1 | h1 | h1
  · exact absurd h (Int.not_lt.mpr (Int.le_of_lt (Int.mul_neg_of_pos_of_neg hx h1)))
  · rw [h1, Int.mul_zero] at h
    exact absurd h (by decide)
  · exact h1
theorem sq_nn (x : Int) : 0 ≤ x * x := by
  rcases Int.le_total 0 x with h | h
  · exact Int.mul_nonneg h h
  · exact Int.mul_nonneg_of_nonpos_of_nonpos h h
theorem fm_of {n : Nat} {m : List (List Int)} (h : Gram n m) (hn : n ≤ 3) : Fm n m := by
  have h1 := h.n1
  obtain rfl | rfl | rfl : n = 1 ∨ n = 2 ∨ n = 3 := by omega
  · obtain ⟨a, rfl⟩ := sz1 h.sq.sz
    exact .one (pos_1.mp h.pos)
  · obtain ⟨a, b, c, d, rfl⟩ := sz2 h.sq.sz
    have hs : [[a, c], [b, d]] = [[a, b], [c, d]] := h.sym
    simp only [List.cons.injEq, and_true, true_and] at hs
    obtain ⟨rfl, -⟩ := hs
    obtain ⟨p1, p2⟩ := pos_2.mp h.pos
    refine .two p1 (pos_of_mul (x := a) ?_ p1) p2
    have := sq_nn c
    unfold D2 at p2
    omega
  · obtain ⟨a, b, c, d, e1, f, g, k, l, rfl⟩ := sz3 h.sq.sz
    have hs : [[a, d, g], [b, e1, k], [c, f, l]] = [[a, b, c], [d, e1, f], [g, k, l]] := h.sym
    simp only [List.cons.injEq, and_true, true_and] at hs
    obtain ⟨⟨rfl, rfl⟩, ⟨-, rfl⟩, -⟩ := hs
    obtain ⟨p1, p2, p3⟩ := pos_3.mp h.pos
    have q1 : 0 < D2 a g g l := by
      refine pos_of_mul (x := D2 a d d e1) ?_ p2
      have e : D2 a d d e1 * D2 a g g l = a * D3 a d g d e1 k g k l + (a * k - d * g) * (a * k - d * g) := by
        unfold D3 D2
        grind
      have := sq_nn (a * k - d * g)
      have := Int.mul_pos p1 p3
      omega
    have q2 : 0 < l := by
      refine pos_of_mul (x := a) ?_ p1
      have := sq_nn g
      unfold D2 at q1
      omega
    refine .three p1 p2 p3 q2 q1 ?_
    refine pos_of_mul (x := D2 a g g l) ?_ q1
    have e : D2 a g g l * D2 e1 k k l = l * D3 a d g d e1 k g k l + (d * l - g * k) * (d * l - g * k) := by
      unfold D3 D2
      grind
    have := sq_nn (d * l - g * k)
    have := Int.mul_pos q2 p3
    omega
theorem mul_b {x y : Int} {A B : Nat} (hx : x.natAbs < A) (hy : y.natAbs < B) : (x * y).natAbs < A * B := by
  rw [Int.natAbs_mul]
  exact Nat.mul_lt_mul'' hx hy
theorem D2_b {a b c d : Int} {A : Nat} (ha : a.natAbs < A) (hb : b.natAbs < A) (hc : c.natAbs < A) (hd : d.natAbs < A) : (D2 a b c d).natAbs < 2 * (A * A) := by
  have h1 := mul_b ha hd
  have h2 := mul_b hb hc
  unfold D2
  omega
theorem sq_of {n B : Nat} {m : List (List Int)} (h : Sz n m) (hb : ∀ r ∈ m, ∀ x ∈ r, x.natAbs < 2 ^ B) : Sq n B m := ⟨h.len, h.row, hb⟩
theorem Fm.adj {n B : Nat} {m : List (List Int)} (h : Fm n m) (hb : ∀ r ∈ m, ∀ x ∈ r, x.natAbs < B) : Fm n (adjM (n - 1) m) ∧ ∀ r ∈ adjM (n - 1) m, ∀ x ∈ r, x.natAbs < 2 * (B * B) + 2 := by
  cases h with
  | one h1 =>
    rw [show 1 - 1 = 0 from rfl, adj_1]
    refine ⟨.one (by decide), fun r hr x hx => ?_⟩
    have e1 : r = [1] := by simpa using hr
    rw [e1] at hx
    have e2 : x = 1 := by simpa using hx
    rw [e2]
    show 1 < _
    omega
  | @two a b d h1 h2 h3 =>
    have ha := hb [a, b] (by simp) a (by simp)
    have hbb := hb [a, b] (by simp) b (by simp)
    have hd := hb [b, d] (by simp) d (by simp)
    have hB : B ≤ B * B := Nat.le_mul_of_pos_left B (by omega)
    rw [show 2 - 1 = 1 from rfl, adj_2]
    refine ⟨.two h2 h1 ?_, fun r hr x hx => ?_⟩
    · have e : D2 d (-b) (-b) a = D2 a b b d := by unfold D2; grind
      rw [e]
      exact h3
    · simp only [List.mem_cons, List.not_mem_nil, or_false] at hr
      rcases hr with rfl | rfl
      all_goals
        simp only [List.mem_cons, List.not_mem_nil, or_false] at hx
        rcases hx with rfl | rfl
        all_goals omega
  | @three a b c d e f h1 h2 h3 h4 h5 h6 =>
    have ha := hb [a, b, c] (by simp) a (by simp)
    have hbb := hb [a, b, c] (by simp) b (by simp)
    have hc := hb [a, b, c] (by simp) c (by simp)
    have hd := hb [b, d, e] (by simp) d (by simp)
    have he := hb [b, d, e] (by simp) e (by simp)
    have hf := hb [c, e, f] (by simp) f (by simp)
    rw [show 3 - 1 = 2 from rfl, adj_3]
    have t1 : -D2 b e c f = -D2 b c e f := by unfold D2; grind
    have t2 : D2 b d c e = D2 b c d e := by unfold D2; grind
    have t3 : -D2 a b c e = -D2 a c b e := by unfold D2; grind
    rw [t1, t2, t3]
    have f4 : 0 < d := by
      refine pos_of_mul (x := a) ?_ h1
      have := sq_nn b
      unfold D2 at h2
      omega
    refine ⟨.three h6 ?_ ?_ h2 ?_ ?_, fun r hr x hx => ?_⟩
    · have e : D2 (D2 d e e f) (-D2 b c e f) (-D2 b c e f) (D2 a c c f) = f * D3 a b c b d e c e f := by unfold D3 D2; grind
      rw [e]
      exact Int.mul_pos h4 h3
    · have e : D3 (D2 d e e f) (-D2 b c e f) (D2 b c d e) (-D2 b c e f) (D2 a c c f) (-D2 a c b e) (D2 b c d e) (-D2 a c b e) (D2 a b b d) = D3 a b c b d e c e f * D3 a b c b d e c e f := by unfold D3 D2; grind
      rw [e]
      exact Int.mul_pos h3 h3
    · have e : D2 (D2 d e e f) (D2 b c d e) (D2 b c d e) (D2 a b b d) = d * D3 a b c b d e c e f := by unfold D3 D2; grind
      rw [e]
      exact Int.mul_pos f4 h3
    · have e : D2 (D2 a c c f) (-D2 a c b e) (-D2 a c b e) (D2 a b b d) = a * D3 a b c b d e c e f := by unfold D3 D2; grind
      rw [e]
      exact Int.mul_pos h1 h3
    · have g1 := D2_b hd he he hf
      have g2 := D2_b hbb hc he hf
      have g3 := D2_b hbb hc hd he
      have g4 := D2_b ha hc hc hf
      have g5 := D2_b ha hc hbb he
      have g6 := D2_b ha hbb hbb hd
      simp only [List.mem_cons, List.not_mem_nil, or_false] at hr
      rcases hr with rfl | rfl | rfl
      all_goals
        simp only [List.mem_cons, List.not_mem_nil, or_false] at hx
        rcases hx with rfl | rfl | rfl
        all_goals omega
theorem Fm.sz {n : Nat} {m : List (List Int)} (h : Fm n m) : Sz n m := by
  cases h <;> exact ⟨rfl, by simp⟩
theorem Fm.gram {n : Nat} {m : List (List Int)} (h : Fm n m) (hb : ∀ r ∈ m, ∀ x ∈ r, x.natAbs < 2 ^ 10) : Gram n m := by
  refine ⟨sq_of h.sz hb, ?_, ?_, ?_, ?_⟩
  · cases h <;> decide
  · cases h <;> decide
  · cases h <;> rfl
  · cases h with
    | one h1 => exact pos_1.mpr h1
    | two h1 h2 h3 => exact pos_2.mpr ⟨h1, h3⟩
    | three h1 h2 h3 h4 h5 h6 => exact pos_3.mpr ⟨h1, h2, h3⟩

end
end K39
namespace K39
open PySem PySem.Spec PyProof.Rows L2 Gm
open C8 (Cal Met Mak pe_c pe_mt pe_mt0 pe_mk)
section
variable {P : Program} {w : World} {K : PySem.W.Frag} {mg : Str → Option Value} {base : Heap}
theorem dot1 (a b : Int) : dotI [a] [b] = a * b := by
  show a * b + 0 = _
  omega
theorem dot2 (a b c d : Int) : dotI [a, b] [c, d] = a * c + b * d := by
  show a * c + (b * d + 0) = _
  omega
theorem dot3 (a b c d e f : Int) : dotI [a, b, c] [d, e, f] = a * d + b * e + c * f := by
  show a * d + (b * e + (c * f + 0)) = _
  omega

end
end K39
namespace K39
open PySem PySem.Spec PyProof.Rows L2 Gm
open C8 (Cal Met Mak pe_c pe_mt pe_mt0 pe_mk)
section
variable {P : Program} {w : World} {K : PySem.W.Frag} {mg : Str → Option Value} {base : Heap}
theorem prod_times {n : Nat} {m : List (List Int)} {x y : List Int} (h : Fm n m) (hx : x.length = n) (hy : y.length = n) : prodM m x y n = dotI (timesM m x) y := by
  cases h with
  | @one a h1 =>
    obtain ⟨x0, rfl⟩ := row1 hx
    obtain ⟨y0, rfl⟩ := row1 hy
    show 0 + (0 + x0 * a * y0) = dotI [dotI [a] [x0]] [y0]
    rw [dot1, dot1]
    grind
  | @two a b d h1 =>
    obtain ⟨x0, x1, rfl⟩ := row2 hx
    obtain ⟨y0, y1, rfl⟩ := row2 hy
    show 0 + (0 + x0 * a * y0 + x0 * b * y1) + (0 + x1 * b * y0 + x1 * d * y1) = dotI [dotI [a, b] [x0, x1], dotI [b, d] [x0, x1]] [y0, y1]
    rw [dot2, dot2, dot2]
    grind
  | @three a b c d e f h1 =>
    obtain ⟨x0, x1, x2, rfl⟩ := row3 hx
    obtain ⟨y0, y1, y2, rfl⟩ := row3 hy
    show 0 + (0 + x0 * a * y0 + x0 * b * y1 + x0 * c * y2) + (0 + x1 * b * y0 + x1 * d * y1 + x1 * e * y2) + (0 + x2 * c * y0 + x2 * e * y1 + x2 * f * y2) = dotI [dotI [a, b, c] [x0, x1, x2], dotI [b, d, e] [x0, x1, x2], dotI [c, e, f] [x0, x1, x2]] [y0, y1, y2]
    rw [dot3, dot3, dot3, dot3]
    grind

end
end K39
namespace K39
open PySem PySem.Spec PyProof.Rows L2 Gm
open C8 (Cal Met Mak pe_c pe_mt pe_mt0 pe_mk)
section
variable {P : Program} {w : World} {K : PySem.W.Frag} {mg : Str → Option Value} {base : Heap}
theorem pss_wk {X : Cx} {st : List Stmt} {t t' : TS} (h : PSs X st t) (hm : ∀ D σ H, t' D σ H → t D σ H) : PSs X st t' := ⟨fun pins s σ H D I q => h.run pins s σ H D I (hm D σ H q)⟩
def tK (M : L2.St → Hp → Prop) : TS := fun D σ H => M σ H ∧ ∀ H', D.rt (.bl true) H'
abbrev XL (P : Program) (w : World) {K : PySem.W.Frag} {mg : Str → Option Value} (base : Heap) (T : Top K mg) (cdv : Value) (A : Around) (outer : List Env) (s : Shared) (H : Hp) (E : XK) : Cx :=
  (cxOf CX0 P w K mg base ["script", "state", "blocks_v", "gram", "rows", "back", "lattice", "grids", "at", "block", "images", "both", "mixed_v", "bent", "k"] "law" (defScope s_law) T.a_law cdv A outer s H E).nox
def sp_law (K : PySem.W.Frag) : Sp := fun vs H Q _ => ∃ (a : Addr) (ns : List Int), vs = [.ref a] ∧ SqL K H a (ns.map V.int) ∧ ns.length ≤ 63 ∧ (∀ z ∈ ns, Builtin.Int.intBits z ≤ 1048576) ∧ ∀ H', Q (.bl true) H'
theorem gridS {K : PySem.W.Frag} {C : Addr} {H H' : Hp} {p : Addr} {v : V} {m : List (List Int)} {w : Nat} (st : StAt H p) (o : Off p H H') (h : IsGrid K C H v m w) : IsGrid K C H' v m w := by
  obtain ⟨⟨q, dx, t, e, ho, ht⟩, hw⟩ := h
  obtain ⟨s0, t0, el, _⟩ := st
  exact ⟨⟨q, dx, t, e, o _ _ (ne_of ho el (by intro z; cases z)) ho, ht.off el o⟩, hw⟩
theorem latS {K : PySem.W.Frag} {CG CL : Addr} {H H' : Hp} {p : Addr} {v : V} {m : List (List Int)} {n : Nat} (st : StAt H p) (o : Off p H H') (h : IsLat K CG CL H v m n) : IsLat K CG CL H' v m n := by
  obtain ⟨⟨q, dx, g, e, ho, G⟩, gm⟩ := h
  obtain ⟨s0, t0, el, h0⟩ := id st
  exact ⟨⟨q, dx, g, e, o _ _ (ne_of ho el (by intro z; cases z)) ho, gridS st o G⟩, gm⟩
theorem rowS {K : PySem.W.Frag} {H H' : Hp} {p : Addr} {v : V} {x : List Int} (st : StAt H p) (o : Off p H H') (h : TRow K H v x) : TRow K H' v x := let ⟨_, _, el, _⟩ := st; TRow.off el o h

end
end K39
namespace K39
open PySem PySem.Spec PyProof.Rows L2 Gm
open C8 (Cal Met Mak pe_c pe_mt pe_mt0 pe_mk)
section
variable {P : Program} {w : World} {K : PySem.W.Frag} {mg : Str → Option Value} {base : Heap}
/-! ### rows that are lists or tuples -/
def QRow (K : PySem.W.Frag) (H : Hp) (v : V) (r : List Int) : Prop := ∃ b, v = .ref b ∧ Seq K H b (r.map V.int)
theorem QRow.same {K : PySem.W.Frag} {H H' : Hp} {v : V} {r : List Int} (s : Same H H') (h : QRow K H v r) : QRow K H' v r := by
  obtain ⟨b, e, hb | hb⟩ := h
  · exact ⟨b, e, .inl (sqL_at hb fun o => s _ o)⟩
  · exact ⟨b, e, .inr (Same.seqT s hb)⟩
theorem qrow_t {K : PySem.W.Frag} {H : Hp} {v : V} {r : List Int} (h : TRow K H v r) : QRow K H v r := let ⟨b, e, x⟩ := h; ⟨b, e, .inr x⟩
theorem qrow_l {K : PySem.W.Frag} {H : Hp} {v : V} {r : List Int} (h : LRow H v r) : QRow K H v r := let ⟨b, e, x⟩ := h; ⟨b, e, .inl (.inl (.inl x))⟩
theorem ix_any {K : PySem.W.Frag} {H : Hp} {b : Addr} {xs : List V} {i : Int} {v : V} {Q : VK} (h : Seq K H b xs) (e : atI xs i = some v) (q : Q v H) : rIx K (.ref b) (.int i) H Q := by
  rcases h with h | h
  · exact .inl ⟨b, xs, i, v, rfl, rfl, h, e, q⟩
  · exact .inr (.inl ⟨b, xs, i, v, rfl, rfl, h, e, q⟩)
def sp_law_product (K : PySem.W.Frag) : Sp := fun vs H Q _ => ∃ (g u v : V) (m : List (List Int)) (x y : List Int) (n B : Nat), vs = [g, u, v] ∧ LRows H g m ∧ QRow K H u x ∧ QRow K H v y ∧ Sq n B m ∧ x.length = n ∧ y.length = n ∧ Bits 8 x ∧ Bits 8 y ∧ n ≤ 5 ∧ B ≤ 1000 ∧ ∀ H', Same H H' → Q (.int (prodM m x y n)) H'
theorem ok_law_product (T : Top K mg) (hN : base.NoSeer) (hT : P.given.tree = none) : FnOk P w K mg base CX0 1 T.a_law_product T.d_law_product ["gram", "v", "w"] (sp_law_product K) := by
  refine T.F_law_product.ok sc_law_product (fun vs H Q E h => ?_) (fun cdv A outer s H vs Q E hr h => ?_)
  · obtain ⟨g, u, v, m, x, y, n, B, rfl, _⟩ := h
    rfl
  · obtain ⟨g, u, v, m, x, y, n, B, rfl, ⟨a, ws, rfl, hs, hp⟩, ⟨b, rfl, hb⟩, ⟨c, rfl, hc⟩, sq, lx, ly, bx, bY, hn, hB, q⟩ := h
    refine ⟨_, (pss_cons (ps_set (i := 3) sc_law_product.nd rfl (by first | exact .inl rfl | exact .inr rfl) pe_int)
      (pss_cons (ps_for PassesOwn.never rfl (pi_range1 (by rfl) T.z_range (pa_cons (pe_callB (lenS K rfl) (by rfl) T.z_len (by decide +kernel) (pa_cons (pv 1) pa_nil)) pa_nil)) (pg_name (i := 4) sc_law_product.nd rfl (by first | exact .inl rfl | exact .inr rfl))
      (pss_one (ps_for PassesOwn.never rfl (pi_range1 (by rfl) T.z_range (pa_cons (pe_callB (lenS K rfl) (by rfl) T.z_len (by decide +kernel) (pa_cons (pv 2) pa_nil)) pa_nil)) (pg_name (i := 5) sc_law_product.nd rfl (by first | exact .inl rfl | exact .inr rfl))
      (pss_one (ps_set (i := 3) sc_law_product.nd rfl (by first | exact .inl rfl | exact .inr rfl) (pe_op op_add (pv 3) (pe_op op_mulX (pe_op op_mulX (pe_ix (ixS K rfl) (pv 1) (pv 4) (fun _ _ => rfl)) (pe_ix (ixL K rfl) (pe_ix (ixL K rfl) (pv 0) (pv 4) (fun _ _ => rfl)) (pv 5) (fun _ _ => rfl))) (pe_ix (ixS K rfl) (pv 2) (pv 5) (fun _ _ => rfl)))))))))
      (pss_one (ps_ret (pv 3))))), ?_⟩
    have lw := Paired.length hp
    rw [sq.len] at lw
    refine ⟨_, rfl, b, _, rfl, hb, _, rfl, by omega, by rw [List.length_map, lx]; omega, ?_⟩
    rw [show (((x.map V.int).length : Nat) : Int).toNat = n by rw [List.length_map, lx]; exact Int.toNat_natCast _]
    refine for_it walk_range (fun i σ H2 => ∃ y3 y4, σ = [some (.ref a), some (.ref b), some (.ref c), some (.int (sumF i fun i => sumF n fun j => x.getD i 0 * ent m i j * y.getD j 0)), y3, y4] ∧ H2 = H) ⟨_, _, rfl, rfl⟩ (fun _ _ _ _ _ => trivial) ?_ ?_
    · rintro i zz σ H2 H2' hi ⟨y3, y4, rfl, rfl⟩ ⟨rfl, rfl⟩
      refine ⟨_, rfl, c, _, rfl, hc, _, rfl, by omega, by rw [List.length_map, ly]; omega, ?_⟩
      rw [show (((y.map V.int).length : Nat) : Int).toNat = n by rw [List.length_map, ly]; exact Int.toNat_natCast _]
      refine for_it walk_range (fun k σ H3 => ∃ y4, σ = [some (.ref a), some (.ref b), some (.ref c), some (.int ((sumF i fun i => sumF n fun j => x.getD i 0 * ent m i j * y.getD j 0) + sumF k fun j => x.getD i 0 * ent m i j * y.getD j 0)), some (.int (0 + (i : Int))), y4] ∧ H3 = H2') ⟨_, by show _ = [_, _, _, some (V.int ((sumF i fun i => sumF n fun j => x.getD i 0 * ent m i j * y.getD j 0) + 0)), _, _]; rw [Int.add_zero]; rfl, rfl⟩ (fun _ _ _ _ _ => trivial) ?_ ?_
      · rintro k zz σ H3 H3' hk ⟨y4, rfl, rfl⟩ ⟨rfl, rfl⟩
        obtain ⟨r, er, erk, hbk⟩ := ent_get sq hi hk
        obtain ⟨rv, erv, cc, rfl, hcc⟩ := Paired.getL hp er
        have ei := getD_get (v := x) (i := i) (by omega)
        have ek := getD_get (v := y) (i := k) (by omega)
        refine ⟨_, rfl, _, rfl, _, rfl, ix_any hb (at_of (j := i) (by omega) (ints_at ei)) ?_⟩
        refine ⟨_, rfl, _, rfl, a, _, _, _, rfl, rfl, .inl (.inl hs), at_of (j := i) (by omega) erv, _, rfl, cc, _, _, _, rfl, rfl, .inl (.inl hcc), at_of (j := k) (by omega) (ints_at erk), ?_⟩
        refine ⟨_, _, rfl, rfl, mulx_ok (bx.at ei) hbk (by omega), ?_⟩
        refine ⟨_, rfl, _, rfl, ix_any hc (at_of (j := k) (by omega) (ints_at ek)) ?_⟩
        refine ⟨_, _, rfl, rfl, mulx_ok (wide_lt (bx.at ei) hbk) (bY.at ek) (by omega), ?_⟩
        refine ⟨_, _, rfl, rfl, ?_⟩
        refine ⟨some (.int (0 + (k : Int))), ?_, rfl⟩
        show _ = [_, _, _, some (V.int ((sumF i fun i => sumF n fun j => x.getD i 0 * ent m i j * y.getD j 0) + ((sumF k fun j => x.getD i 0 * ent m i j * y.getD j 0) + x.getD i 0 * ent m i k * y.getD k 0))), _, _]
        rw [← Int.add_assoc]
        rfl
      · rintro σ H3 ⟨y4, rfl, rfl⟩
        exact ⟨_, _, rfl, rfl⟩
    · rintro σ H2 ⟨y3, y4, rfl, rfl⟩
      exact ⟨_, rfl, q _ (Same.refl _)⟩
theorem cal_law_product (T : Top K mg) (hN : base.NoSeer) (hT : P.given.tree = none) : Cal P w K mg base 1 "_law_product" (sp_law_product K) [] := ⟨⟨_, _, _, [], ok_law_product T hN hT, T.g_law_product, T.F_law_product.kp, T.b_law_product, .nil⟩⟩
/-! ### moved -/
def movM (m V : List (List Int)) (n : Nat) : List (List Int) := V.map fun x => V.map fun y => prodM m x y n
def sp_law_moved (K : PySem.W.Frag) : Sp := fun vs H Q _ => ∃ (g u : V) (m ms : List (List Int)) (n B : Nat), vs = [g, u] ∧ LRows H g m ∧ LRows H u ms ∧ Sq n B m ∧ (∀ r ∈ ms, r.length = n ∧ Bits 8 r) ∧ n ≤ 5 ∧ ms.length ≤ 5 ∧ B ≤ 1000 ∧ ∀ v H', Same H H' → LRows H' v (movM m ms n) → Q v H'
theorem lmono2 {D : Addr} {m : List (List Int)} (i : Nat) (v : V) (H H' : Hp) (acc : List V) (_ : H D = some (.lst acc)) (o : Off D H H') (h : ∃ r, m[i]? = some r ∧ ∃ p, v = V.ref p ∧ p ≠ D ∧ H p = some (.lst (r.map V.int))) : ∃ r, m[i]? = some r ∧ ∃ p, v = V.ref p ∧ p ≠ D ∧ H' p = some (.lst (r.map V.int)) := let ⟨r, er, p, ev, ne, eh⟩ := h; ⟨r, er, p, ev, ne, o _ _ ne eh⟩
theorem ok_law_moved (T : Top K mg) (hN : base.NoSeer) (hT : P.given.tree = none) : FnOk P w K mg base CX0 2 T.a_law_moved T.d_law_moved ["gram", "rows"] (sp_law_moved K) := by
  refine T.F_law_moved.ok sc_law_moved (fun vs H Q E h => ?_) (fun cdv A outer s H vs Q E hr h => ?_)
  · obtain ⟨g, u, m, ms, n, B, rfl, _⟩ := h
    rfl
  · obtain ⟨g, u, m, ms, n, B, rfl, hg, hu, sq, hr', hn, hk, hB, q⟩ := h
    obtain ⟨a, ws, rfl, ha, hp⟩ := id hu
    have lw := Paired.length hp
    refine ⟨_, (pss_one (ps_ret (pe_lc (own := [("v", 2)]) (g := (gName 2)) (by rfl) sc_law_moved.nd (piS K rfl (pv 1)) ((by show BlkOk ["gram", "rows", "v", "w"] (defScope s_law_moved) _ _; exact blkOk_by (by decide +kernel))) (fun _ _ _ _ _ => (pg_name (i := 2) sc_law_moved.nd rfl (by first | exact .inl rfl | exact .inr rfl))) (fun _ _ _ _ _ => pts_nil) (fun _ _ _ _ _ => (pe_lc (own := [("w", 3)]) (g := (gName 3)) (by rfl) sc_law_moved.nd (piS K rfl (pv 1)) ((by show BlkOk ["gram", "rows", "v", "w"] (relS _ (defScope s_law_moved)) _ _; exact blkOk_by (by decide +kernel))) (fun _ _ _ _ _ => (pg_name (i := 3) sc_law_moved.nd rfl (by first | exact .inl rfl | exact .inr rfl))) (fun _ _ _ _ _ => pts_nil) (fun _ _ _ _ _ => (pe_c (cal_law_product T hN hT) hr (by decide) (by rfl) (pa_cons (pv 0) (pa_cons (pv 2) (pa_cons (pv 3) pa_nil)))))))))), ?_⟩
    refine ⟨_, rfl, a, ws, rfl, .inl (.inl (.inl ha)), fun J1 G1 W1 hG1 D1 hD1 => ?_⟩
    refine lc_all W1 hD1 (by omega) (fun H2 s2 => hG1 H2 fun b _ o => s2 b o) (fun i v H2 => ∃ r, (movM m ms n)[i]? = some r ∧ ∃ p, v = V.ref p ∧ p ≠ D1 ∧ H2 p = some (.lst (r.map V.int))) lmono2 ?_ gm_name ?_
    · rintro i x H2 H2' acc Ko hi s2 eD ⟨rfl, ex⟩ k
      obtain ⟨rx, erx, hrx⟩ := Paired.getR hp ex
      refine ⟨rfl, ?_⟩
      have ha2 := s2 _ _ ha
      refine ⟨_, rfl, a, ws, rfl, .inl (.inl (.inl ha2)), fun J3 G3 W3 hG3 D3 hD3 => ?_⟩
      refine lc_all W3 hD3 (by omega) (fun H4 s4 => hG3 H4 fun b _ o => s4 b o) (fun j v _ => ∃ z, (ms.map fun y => prodM m rx y n)[j]? = some z ∧ v = .int z) (fun _ _ _ _ _ _ _ h => h) ?_ gm_name ?_
      · rintro j y H4 H4' acc4 Ko4 hj s4 eD4 ⟨rfl, ey⟩ k4
        obtain ⟨ry, ery, hry⟩ := Paired.getR hp ey
        have s24 := s2.trans s4
        have h1 := hr' rx (List.mem_of_getElem? erx)
        have h2 := hr' ry (List.mem_of_getElem? ery)
        refine ⟨rfl, ?_⟩
        refine ⟨_, rfl, _, rfl, _, rfl, g, x, y, m, rx, ry, n, B, rfl, LRows.same s24 hg, qrow_l (LRow.same s24 hrx), qrow_l (LRow.same s24 hry), sq, h1.1, h2.1, h1.2, h2.2, hn, hB, fun H5 s5 => ?_⟩
        exact k4 _ _ s5 ⟨_, by rw [List.getElem?_map, ery]; rfl, rfl⟩
      · intro H4 l s4 eD4 hpl
        have el := ints_list (by rw [List.length_map]; omega) hpl
        subst el
        have nD : D3 ≠ D1 := fun e => by rw [e, eD] at hD3; cases hD3
        exact k _ _ s4 ⟨ms.map fun y => prodM m rx y n, by unfold movM; rw [List.getElem?_map, erx]; rfl, D3, rfl, nD, eD4⟩
    · intro H2 l s2 eD hpl
      exact q _ _ s2 (lrows_of (by unfold movM; rw [List.length_map]; omega) eD hpl)
theorem cal_law_moved (T : Top K mg) (hN : base.NoSeer) (hT : P.given.tree = none) : Cal P w K mg base 2 "_law_moved" (sp_law_moved K) [] := ⟨⟨_, _, _, [], ok_law_moved T hN hT, T.g_law_moved, T.F_law_moved.kp, T.b_law_moved, .nil⟩⟩
def sp_law_is_independent (K : PySem.W.Frag) : Sp := fun vs H Q _ => ∃ (g u : V) (m ms : List (List Int)) (n B k : Nat), vs = [g, u] ∧ LRows H g m ∧ LRows H u ms ∧ Sq n B m ∧ (∀ r ∈ ms, r.length = n ∧ Bits 8 r) ∧ n ≤ 5 ∧ ms.length = k ∧ k ≤ 5 ∧ B ≤ 1000 ∧ Sq k 10 (movM m ms n) ∧ ∀ H', Same H H' → Q (.bl (decide (0 < detL k (movM m ms n)))) H'

end
end K39
namespace K39
open PySem PySem.Spec PyProof.Rows L2 Gm
open C8 (Cal Met Mak pe_c pe_mt pe_mt0 pe_mk)
section
variable {P : Program} {w : World} {K : PySem.W.Frag} {mg : Str → Option Value} {base : Heap}
/-! ### unimodular matrices by steps -/
def l1 (r : List Int) : Nat := (r.map Int.natAbs).sum
theorem l1_at {x : Int} : ∀ {r : List Int}, x ∈ r → x.natAbs ≤ l1 r
  | y :: r, h => by
    show x.natAbs ≤ y.natAbs + l1 r
    rcases List.mem_cons.mp h with rfl | h
    · omega
    · have := l1_at h
      omega
def negR (r : List Int) : List Int := r.map fun z => -z
theorem l1_neg (r : List Int) : l1 (negR r) = l1 r := by
  unfold l1 negR
  rw [List.map_map]
  congr 1
  refine List.map_congr_left fun z _ => ?_
  show (-z).natAbs = z.natAbs
  omega
def addR (n : Nat) (m : List (List Int)) (i j : Nat) (c : Int) : List Int := (List.range n).map fun k => ent m i k + c * ent m j k
structure Uni (n t : Nat) (m : List (List Int)) : Prop where
  sz : Sz n m
  l1 : ∀ r ∈ m, l1 r ≤ 2 ^ t
  det : (detL n m).natAbs = 1
def unitU (n i : Nat) : List Int := (List.range n).map fun j => if i = j then 1 else 0
theorem unitU_len {n i : Nat} : (unitU n i).length = n := by
  unfold unitU
  rw [List.length_map, List.length_range]
def unitM (n : Nat) : List (List Int) := (List.range n).map (unitU n)
theorem n123 {n : Nat} (h0 : 0 < n) (h3 : n ≤ 3) : n = 1 ∨ n = 2 ∨ n = 3 := by omega
theorem uni_unit {n : Nat} (h0 : 0 < n) (h3 : n ≤ 3) : Uni n 0 (unitM n) := by
  have hs : Sz n (unitM n) := ⟨by unfold unitM; rw [List.length_map, List.length_range], fun r hr => by
    obtain ⟨i, _, rfl⟩ := List.mem_map.mp hr
    exact unitU_len⟩
  refine ⟨hs, ?_, ?_⟩
  · rcases n123 h0 h3 with rfl | rfl | rfl <;> decide
  · rcases n123 h0 h3 with rfl | rfl | rfl <;> decide
theorem addR_len {n : Nat} {m : List (List Int)} {i j : Nat} {c : Int} : (addR n m i j c).length = n := by
  unfold addR
  rw [List.length_map, List.length_range]
theorem sz_set {n i : Nat} {m : List (List Int)} {r : List Int} (h : Sz n m) (hr : r.length = n) : Sz n (m.set i r) := ⟨by rw [List.length_set]; exact h.len, fun q hq => by
  rcases List.mem_or_eq_of_mem_set hq with hq | rfl
  · exact h.row q hq
  · exact hr⟩
theorem uni_neg {n t i : Nat} {m : List (List Int)} (h : Uni n t m) (h0 : 0 < n) (h3 : n ≤ 3) (hi : i < n) : Uni n (t + 1) (m.set i (negR (m.getD i []))) := by
  have hm : m.getD i [] ∈ m := by
    have hi' : i < m.length := by rw [h.sz.len]; exact hi
    rw [List.getD_eq_getElem?_getD, List.getElem?_eq_getElem hi']
    exact List.getElem_mem hi'
  refine ⟨sz_set h.sz ?_, fun r hr => ?_, ?_⟩
  · unfold negR
    rw [List.length_map]
    exact h.sz.row _ hm
  · rw [Nat.pow_succ]
    rcases List.mem_or_eq_of_mem_set hr with hr | rfl
    · have := h.l1 r hr
      omega
    · rw [l1_neg]
      have := h.l1 _ hm
      omega
  · have hd := h.det
    have hsz := h.sz
    suffices hh : detL n (m.set i (negR (m.getD i []))) = -detL n m by rw [hh, Int.natAbs_neg]; exact hd
    rcases n123 h0 h3 with rfl | rfl | rfl
    · obtain ⟨a, rfl⟩ := sz1 hsz
      obtain rfl : i = 0 := by omega
      show detL 1 [[-a]] = _
      rw [detL1, detL1]
    · obtain ⟨a, b, c, d, rfl⟩ := sz2 hsz
      rcases (show i = 0 ∨ i = 1 by omega) with rfl | rfl
      · show detL 2 [[-a, -b], [c, d]] = _
        rw [detL2, detL2]
        unfold D2
        grind
      · show detL 2 [[a, b], [-c, -d]] = _
        rw [detL2, detL2]
        unfold D2
        grind
    · obtain ⟨a, b, c, d, e, f, g, k, l, rfl⟩ := sz3 hsz
      rcases (show i = 0 ∨ i = 1 ∨ i = 2 by omega) with rfl | rfl | rfl
      · show detL 3 [[-a, -b, -c], [d, e, f], [g, k, l]] = _
        rw [detL3, detL3]
        unfold D3 D2
        grind
      · show detL 3 [[a, b, c], [-d, -e, -f], [g, k, l]] = _
        rw [detL3, detL3]
        unfold D3 D2
        grind
      · show detL 3 [[a, b, c], [d, e, f], [-g, -k, -l]] = _
        rw [detL3, detL3]
        unfold D3 D2
        grind
theorem l1_add {c : Int} (hc : c.natAbs ≤ 1) : ∀ {x y : List Int}, x.length = y.length → l1 (List.zipWith (fun a b => a + c * b) x y) ≤ l1 x + l1 y
  | [], _, _ => Nat.zero_le _
  | a :: x, [], h => by cases h
  | a :: x, b :: y, h => by
    have ih := l1_add hc (x := x) (y := y) (by simpa using h)
    show (a + c * b).natAbs + l1 (List.zipWith (fun a b => a + c * b) x y) ≤ a.natAbs + l1 x + (b.natAbs + l1 y)
    have h1 := Int.natAbs_add_le a (c * b)
    have h2 : (c * b).natAbs ≤ b.natAbs := by
      rw [Int.natAbs_mul]
      have := Nat.mul_le_mul_right b.natAbs hc
      omega
    omega
theorem addR_zip {n i j : Nat} {m : List (List Int)} {c : Int} (h : Sz n m) (hi : i < n) (hj : j < n) : addR n m i j c = List.zipWith (fun a b => a + c * b) (m.getD i []) (m.getD j []) := by
  have hr : ∀ i, i < n → (m.getD i []).length = n := fun i hi => by
    have hi' : i < m.length := by rw [h.len]; exact hi
    rw [List.getD_eq_getElem?_getD, List.getElem?_eq_getElem hi']
    exact h.row _ (List.getElem_mem hi')
  have h1 := hr i hi
  have h2 := hr j hj
  unfold addR ent
  apply List.ext_getElem
  · rw [List.length_map, List.length_range, List.length_zipWith, h1, h2, Nat.min_self]
  · intro k hk1 hk2
    rw [List.getElem_map, List.getElem_range, List.getElem_zipWith]
    rw [List.length_map, List.length_range] at hk1
    have e1 : (m.getD i []).getD k 0 = (m.getD i [])[k]'(by omega) := by
      rw [List.getD_eq_getElem?_getD, List.getElem?_eq_getElem (by omega)]
      rfl
    have e2 : (m.getD j []).getD k 0 = (m.getD j [])[k]'(by omega) := by
      rw [List.getD_eq_getElem?_getD, List.getElem?_eq_getElem (by omega)]
      rfl
    rw [e1, e2]
theorem uni_add {n t i j : Nat} {m : List (List Int)} {c : Int} (h : Uni n t m) (h0 : 0 < n) (h3 : n ≤ 3) (hi : i < n) (hj : j < n) (hij : i ≠ j) (hc : c.natAbs ≤ 1) : Uni n (t + 1) (m.set i (addR n m i j c)) := by
  have hm : ∀ i, i < n → m.getD i [] ∈ m := fun i hi => by
    have hi' : i < m.length := by rw [h.sz.len]; exact hi
    rw [List.getD_eq_getElem?_getD, List.getElem?_eq_getElem hi']
    exact List.getElem_mem hi'
  refine ⟨sz_set h.sz addR_len, fun r hr => ?_, ?_⟩
  · rw [Nat.pow_succ]
    rcases List.mem_or_eq_of_mem_set hr with hr | rfl
    · have := h.l1 r hr
      omega
    · rw [addR_zip h.sz hi hj]
      have h1 := l1_add hc (x := m.getD i []) (y := m.getD j []) (by rw [h.sz.row _ (hm i hi), h.sz.row _ (hm j hj)])
      have h2 := h.l1 _ (hm i hi)
      have h4 := h.l1 _ (hm j hj)
      omega
  · have hd := h.det
    have hsz := h.sz
    suffices hh : detL n (m.set i (addR n m i j c)) = detL n m by rw [hh]; exact hd
    rcases n123 h0 h3 with rfl | rfl | rfl
    · omega
    · obtain ⟨a, b, x, d, rfl⟩ := sz2 hsz
      rcases (show i = 0 ∧ j = 1 ∨ i = 1 ∧ j = 0 by omega) with ⟨rfl, rfl⟩ | ⟨rfl, rfl⟩
      · show detL 2 [[a + c * x, b + c * d], [x, d]] = _
        rw [detL2, detL2]
        unfold D2
        grind
      · show detL 2 [[a, b], [x + c * a, d + c * b]] = _
        rw [detL2, detL2]
        unfold D2
        grind
    · obtain ⟨a, b, x, d, e, f, g, k, l, rfl⟩ := sz3 hsz
      rcases (show i = 0 ∧ j = 1 ∨ i = 0 ∧ j = 2 ∨ i = 1 ∧ j = 0 ∨ i = 1 ∧ j = 2 ∨ i = 2 ∧ j = 0 ∨ i = 2 ∧ j = 1 by omega) with ⟨rfl, rfl⟩ | ⟨rfl, rfl⟩ | ⟨rfl, rfl⟩ | ⟨rfl, rfl⟩ | ⟨rfl, rfl⟩ | ⟨rfl, rfl⟩
      · show detL 3 [[a + c * d, b + c * e, x + c * f], [d, e, f], [g, k, l]] = _
        rw [detL3, detL3]
        unfold D3 D2
        grind
      · show detL 3 [[a + c * g, b + c * k, x + c * l], [d, e, f], [g, k, l]] = _
        rw [detL3, detL3]
        unfold D3 D2
        grind
      · show detL 3 [[a, b, x], [d + c * a, e + c * b, f + c * x], [g, k, l]] = _
        rw [detL3, detL3]
        unfold D3 D2
        grind
      · show detL 3 [[a, b, x], [d + c * g, e + c * k, f + c * l], [g, k, l]] = _
        rw [detL3, detL3]
        unfold D3 D2
        grind
      · show detL 3 [[a, b, x], [d, e, f], [g + c * a, k + c * b, l + c * x]] = _
        rw [detL3, detL3]
        unfold D3 D2
        grind
      · show detL 3 [[a, b, x], [d, e, f], [g + c * d, k + c * e, l + c * f]] = _
        rw [detL3, detL3]
        unfold D3 D2
        grind

end
end K39
namespace K39
open PySem PySem.Spec PyProof.Rows L2 Gm
open C8 (Cal Met Mak pe_c pe_mt pe_mt0 pe_mk)
section
variable {P : Program} {w : World} {K : PySem.W.Frag} {mg : Str → Option Value} {base : Heap}
def sp_law_unimodular : Sp := fun vs H Q _ => ∃ (p : Addr) (n : Nat), vs = [.ref p, .int n] ∧ StAt H p ∧ 0 < n ∧ n ≤ 3 ∧ ∀ v m H', Off p H H' → StAt H' p → LAs p H' v m → Uni n 3 m → Q v H'
theorem uni_up {n t u : Nat} {m : List (List Int)} (h : Uni n t m) (hu : t ≤ u) : Uni n u m := ⟨h.sz, fun r hr => Nat.le_trans (h.l1 r hr) (Nat.pow_le_pow_right (by decide) hu), h.det⟩
theorem uni_row {n t i : Nat} {m : List (List Int)} (h : Uni n t m) (hi : i < n) (ht : t ≤ 3) : ∃ r, m[i]? = some r ∧ m.getD i [] = r ∧ r.length = n ∧ ∀ k, k < n → r[k]? = some (ent m i k) ∧ (ent m i k).natAbs < 2 ^ 8 := by
  have hi' : i < m.length := by rw [h.sz.len]; exact hi
  have hm := List.getElem_mem hi'
  have hl := h.sz.row _ hm
  have e1 : m.getD i [] = m[i] := by rw [List.getD_eq_getElem?_getD, List.getElem?_eq_getElem hi']; rfl
  refine ⟨m[i], List.getElem?_eq_getElem hi', e1, hl, fun k hk => ?_⟩
  have hk' : k < (m[i]).length := by omega
  have e2 : ent m i k = (m[i])[k] := by
    unfold ent
    rw [e1, List.getD_eq_getElem?_getD, List.getElem?_eq_getElem hk']
    rfl
  refine ⟨by rw [e2]; exact List.getElem?_eq_getElem hk', ?_⟩
  have h1 := h.l1 _ hm
  have h2 := l1_at (List.getElem_mem hk')
  have h3 : 2 ^ t ≤ 2 ^ 3 := Nat.pow_le_pow_right (by decide) ht
  rw [e2]
  omega
theorem ok_law_unimodular (T : Top K mg) (hN : base.NoSeer) (hT : P.given.tree = none) : FnOk P w K mg base CX0 2 T.a_law_unimodular T.d_law_unimodular ["state", "size"] sp_law_unimodular := by
  refine T.F_law_unimodular.ok sc_law_unimodular (fun vs H Q E h => ?_) (fun cdv A outer s H vs Q E hr h => ?_)
  · obtain ⟨p, n, rfl, _⟩ := h
    rfl
  · obtain ⟨p, n, rfl, st, n0, n3, q⟩ := h
    refine ⟨_, (pss_cons (ps_set (i := 2) sc_law_unimodular.nd rfl (by first | exact .inl rfl | exact .inr rfl) (pe_lc (own := [("i", 4)]) (g := (gName 4)) (by rfl) sc_law_unimodular.nd (pi_range1 (by rfl) T.z_range (pa_cons (pv 1) pa_nil)) ((by show BlkOk ["state", "size", "rows", "turn", "i", "j", "c", "x", "k"] (defScope s_law_unimodular) _ _; exact blkOk_by (by decide +kernel))) (fun _ _ _ _ _ => (pg_name (i := 4) sc_law_unimodular.nd rfl (by first | exact .inl rfl | exact .inr rfl))) (fun _ _ _ _ _ => pts_nil) (fun _ _ _ _ _ => (pe_lc (own := [("j", 5)]) (g := (gName 5)) (by rfl) sc_law_unimodular.nd (pi_range1 (by rfl) T.z_range (pa_cons (pv 1) pa_nil)) ((by show BlkOk ["state", "size", "rows", "turn", "i", "j", "c", "x", "k"] (relS _ (defScope s_law_unimodular)) _ _; exact blkOk_by (by decide +kernel))) (fun _ _ _ _ _ => (pg_name (i := 5) sc_law_unimodular.nd rfl (by first | exact .inl rfl | exact .inr rfl))) (fun _ _ _ _ _ => pts_nil) (fun _ _ _ _ _ => (pe_callTy (call_int1) (by rfl) T.z_int (by decide +kernel) (pa_cons (pe_cmpR op_eq (pv 4) (pv 5) (nomark _)) pa_nil)))))))
      (pss_cons (ps_for PassesOwn.never rfl (pi_range1 (by rfl) T.z_range (pa_cons (pe_c (cal_law_take T hN hT) hr (by decide) (by rfl) (pa_cons (pv 0) (pa_cons pe_int pa_nil))) pa_nil)) (pg_name (i := 3) sc_law_unimodular.nd rfl (by first | exact .inl rfl | exact .inr rfl))
      (pss_cons (ps_set (i := 4) sc_law_unimodular.nd rfl (by first | exact .inl rfl | exact .inr rfl) (pe_c (cal_law_take T hN hT) hr (by decide) (by rfl) (pa_cons (pv 0) (pa_cons (pv 1) pa_nil))))
      (pss_cons (ps_set (i := 5) sc_law_unimodular.nd rfl (by first | exact .inl rfl | exact .inr rfl) (pe_c (cal_law_take T hN hT) hr (by decide) (by rfl) (pa_cons (pv 0) (pa_cons (pv 1) pa_nil))))
      (pss_cons (ps_set (i := 6) sc_law_unimodular.nd rfl (by first | exact .inl rfl | exact .inr rfl) (pe_op op_sub (pe_c (cal_law_take T hN hT) hr (by decide) (by rfl) (pa_cons (pv 0) (pa_cons pe_int pa_nil))) pe_int))
      (pss_one (ps_if (pt_cmpR op_eq (pv 4) (pv 5) (nomark _))
      (pss_one (ps_asg (pe_lc (own := [("x", 7)]) (g := (gName 7)) (by rfl) sc_law_unimodular.nd (piS K rfl (pe_ix (ixL K rfl) (pv 2) (pv 4) (fun _ _ => rfl))) ((by show BlkOk ["state", "size", "rows", "turn", "i", "j", "c", "x", "k"] (defScope s_law_unimodular) _ _; exact blkOk_by (by decide +kernel))) (fun _ _ _ _ _ => (pg_name (i := 7) sc_law_unimodular.nd rfl (by first | exact .inl rfl | exact .inr rfl))) (fun _ _ _ _ _ => pts_nil) (fun _ _ _ _ _ => (pe_un un_neg (pv 7)))) (pg_sub (pv 2) (pv 4) set_list)))
      (pss_one (ps_asg (pe_lc (own := [("k", 8)]) (g := (gName 8)) (by rfl) sc_law_unimodular.nd (pi_range1 (by rfl) T.z_range (pa_cons (pv 1) pa_nil)) ((by show BlkOk ["state", "size", "rows", "turn", "i", "j", "c", "x", "k"] (defScope s_law_unimodular) _ _; exact blkOk_by (by decide +kernel))) (fun _ _ _ _ _ => (pg_name (i := 8) sc_law_unimodular.nd rfl (by first | exact .inl rfl | exact .inr rfl))) (fun _ _ _ _ _ => pts_nil) (fun _ _ _ _ _ => (pe_op op_add (pe_ix (ixL K rfl) (pe_ix (ixL K rfl) (pv 2) (pv 4) (fun _ _ => rfl)) (pv 8) (fun _ _ => rfl)) (pe_op op_mulX (pv 6) (pe_ix (ixL K rfl) (pe_ix (ixL K rfl) (pv 2) (pv 5) (fun _ _ => rfl)) (pv 8) (fun _ _ => rfl)))))) (pg_sub (pv 2) (pv 4) set_list)))))))))
      (pss_one (ps_ret (pv 2))))), ?_⟩
    refine ⟨_, rfl, (n : Int), rfl, by omega, by omega, fun R nR => ?_⟩
    rw [show ((n : Int)).toNat = n from Int.toNat_natCast _]
    have hpR := st.ne nR
    refine lc_all walk_range nR (by omega) (fun _ _ => trivial) (fun i v H5 => ∃ r, (unitM n)[i]? = some r ∧ ∃ q, v = V.ref q ∧ q ≠ R ∧ H5 q = some (.lst (r.map V.int)) ∧ H q = none) (fun j v H7 H8 acc e o ⟨r, er, q, ev, ne, eh, fr⟩ => ⟨r, er, q, ev, ne, o _ _ ne eh, fr⟩) ?_ gm_name ?_
    · rintro i x H5 H5' acc Ko hi s5 eD ⟨rfl, rfl⟩ kc
      refine ⟨rfl, ?_⟩
      refine ⟨_, rfl, (n : Int), rfl, by omega, by omega, fun D2 nD2 => ?_⟩
      rw [show ((n : Int)).toNat = n from Int.toNat_natCast _]
      refine lc_all walk_range nD2 (by omega) (fun _ _ => trivial) (fun j v _ => ∃ z, (unitU n i)[j]? = some z ∧ v = .int z) (fun _ _ _ _ _ _ _ h => h) ?_ gm_name ?_
      · rintro j y H6 H6' acc2 Ko2 hj s6 eD2 ⟨rfl, rfl⟩ k2
        refine ⟨rfl, ?_⟩
        refine ⟨_, rfl, _, rfl, rfl, .inr ⟨_, rfl, ?_⟩⟩
        refine k2 _ _ (Same.refl _) ⟨if i = j then 1 else 0, by unfold unitU; rw [List.getElem?_map, List.getElem?_range hj]; rfl, ?_⟩
        by_cases h : i = j
        · rw [if_pos h, if_pos (decide_eq_true (by rw [h]))]
        · rw [if_neg h, if_neg (by rw [decide_eq_false (fun z => h (by have := V.int.inj z; omega))]; decide)]
      · intro H6 l6 s6 eD6 hp6
        have el := ints_list (by rw [unitU_len]) hp6
        subst el
        have nDR : D2 ≠ R := fun e => by rw [e, eD] at nD2; cases nD2
        have nDH : H D2 = none := by
          cases hh : H D2 with
          | none => rfl
          | some o => rw [s5 _ _ hh] at nD2; cases nD2
        exact kc _ _ s6 ⟨unitU n i, by unfold unitM; rw [List.getElem?_map, List.getElem?_range hi]; rfl, D2, rfl, nDR, eD6, nDH⟩
    intro H4 l s4 eD hpl
    have frp : ∀ q, H q = none → q ≠ p := fun q fr e => by
      obtain ⟨_, _, es, _⟩ := st
      rw [e, es] at fr
      cases fr
    have hp4 : Paired (LA p R H4) l (unitM n) := L2.Paired.mapP (paired_at (F := fun v r => ∃ q, v = V.ref q ∧ q ≠ R ∧ H4 q = some (.lst (r.map V.int)) ∧ H q = none) (m := unitM n) (by unfold unitM; rw [List.length_map, List.length_range]) hpl) fun _ _ ⟨q, ev, ne, eh, fr⟩ => ⟨q, ev, frp q fr, ne, eh⟩
    -- the steps
    refine ⟨_, rfl, p, 4, rfl, st.same s4, by decide, by decide, fun rt H5 hrt o5 st5 => ?_⟩
    refine ⟨(rt : Int), rfl, by omega, by omega, ?_⟩
    rw [show ((rt : Int)).toNat = rt from Int.toNat_natCast _]
    refine for_it walk_range (fun t σ H6 => ∃ (y3 y4 y5 y6 y7 y8 : Option V) (ws : List V) (ms : List (List Int)), σ = [some (.ref p), some (.int n), some (.ref R), y3, y4, y5, y6, y7, y8] ∧ Off p H H6 ∧ StAt H6 p ∧ H6 R = some (.lst ws) ∧ Paired (LA p R H6) ws ms ∧ Uni n t ms) ⟨none, none, none, none, none, none, l, unitM n, rfl, Off.trans (Same.off s4) o5, st5, o5 _ _ hpR.symm eD, L2.Paired.mapP hp4 fun _ _ => LA.offp o5, uni_unit n0 n3⟩ (fun _ _ _ _ _ => trivial) ?_ ?_
    · rintro t x σ H6 H6' ht ⟨y3, y4, y5, y6, y7, y8, ws, ms, rfl, o6, st6, eR, hpw, U⟩ ⟨rfl, rfl⟩
      have t3 : t ≤ 2 := by omega
      have lws := Paired.length hpw
      have lms := U.sz.len
      refine ⟨_, rfl, _, rfl, p, n, rfl, st6, n0, by omega, fun i H7 hi o7 st7 => ?_⟩
      refine ⟨_, rfl, _, rfl, p, n, rfl, st7, n0, by omega, fun j H8 hj o8 st8 => ?_⟩
      refine ⟨_, rfl, p, 3, rfl, st8, by decide, by decide, fun c H9 hc o9 st9 => ⟨_, _, rfl, rfl, ?_⟩⟩
      have o69 := Off.trans o7 (Off.trans o8 o9)
      have eR9 := o69 _ _ hpR.symm eR
      have hpw9 : Paired (LA p R H9) ws ms := L2.Paired.mapP hpw fun _ _ => LA.offp o69
      have oH9 := Off.trans o6 o69
      obtain ⟨ri, eri, egi, lri, hri⟩ := uni_row U hi (by omega)
      obtain ⟨rj, erj, egj, lrj, hrj⟩ := uni_row U hj (by omega)
      obtain ⟨vi, evi, ci, rfl, ncip, nciR, hci⟩ := Paired.getL hpw9 eri
      obtain ⟨vj, evj, cj, rfl, ncjp, ncjR, hcj⟩ := Paired.getL hpw9 erj
      -- a new row at the place i
      have fin : ∀ (D : Addr) (r' : List Int) (H1 : Hp), Same H9 H1 → D ≠ p → D ≠ R → H1 D = some (.lst (r'.map V.int)) → Off p H (upd H1 R (.lst (ws.set i (.ref D)))) ∧ StAt (upd H1 R (.lst (ws.set i (.ref D)))) p ∧ Paired (LA p R (upd H1 R (.lst (ws.set i (.ref D))))) (ws.set i (.ref D)) (ms.set i r') := fun D r' H1 s1 hDp hDR eD1 => by
        refine ⟨fun b o nb e => ?_, ?_, ?_⟩
        · have nbR : b ≠ R := fun z => by rw [z, nR] at e; cases e
          rw [L2.upd_ne nbR]
          exact s1 _ _ (oH9 _ _ nb e)
        · obtain ⟨a1, a2, e, h0⟩ := st9
          exact ⟨a1, a2, by rw [L2.upd_ne hpR]; exact s1 _ _ e, h0⟩
        · refine paired_set ⟨D, rfl, hDp, hDR, by rw [L2.upd_ne hDR]; exact eD1⟩ i (L2.Paired.mapP hpw9 fun _ _ ⟨c, ev, n1, n2, e⟩ => ⟨c, ev, n1, n2, ?_⟩)
          rw [L2.upd_ne n2]
          exact s1 _ _ e
      have hqD : ∀ {D : Addr}, H9 D = none → D ≠ p ∧ D ≠ R := fun {D} nD => by
        refine ⟨fun e => ?_, fun e => ?_⟩
        · obtain ⟨_, _, es, _⟩ := st9
          rw [e, es] at nD
          cases nD
        · rw [e, eR9] at nD
          cases nD
      refine ⟨_, rfl, _, rfl, rfl, _, rfl, ?_⟩
      by_cases hij : V.int (i : Int) = V.int (j : Int)
      · rw [decide_eq_true hij]
        refine iteT ?_
        refine ⟨_, rfl, _, rfl, R, ws, _, _, rfl, rfl, .inl (.inl eR9), at_of (j := i) rfl evi, ci, _, rfl, .inl (.inl (.inl hci)), fun J1 G1 W1 hG1 D1 hD1 => ?_⟩
        obtain ⟨nDp, nDR⟩ := hqD hD1
        refine lc_all W1 hD1 (by rw [List.length_map]; omega) (fun Ha sa => hG1 Ha fun b _ o => sa b o) (fun i v _ => ∃ z, (negR ri)[i]? = some z ∧ v = .int z) (fun _ _ _ _ _ _ _ h => h) ?_ gm_name ?_
        · rintro k y Ha Ha' acc Ko hk sa eDa ⟨rfl, ey⟩ kk
          obtain ⟨z, ez, rfl⟩ := ints_get ey
          refine ⟨rfl, _, rfl, _, rfl, ?_⟩
          exact kk _ _ (Same.refl _) ⟨-z, by unfold negR; rw [List.getElem?_map, ez]; rfl, rfl⟩
        · intro Ha la sa eDa hpa
          have el := ints_list (by unfold negR; rw [List.length_map, List.length_map]) hpa
          subst el
          have U' := uni_neg U n0 n3 hi
          rw [egi] at U'
          obtain ⟨f1, f2, f3⟩ := fin D1 (negR ri) Ha sa nDp nDR eDa
          refine ⟨_, rfl, _, rfl, R, ws, _, i, rfl, rfl, sa _ _ eR9, ixN_nat (by omega), ?_⟩
          exact ⟨_, _, _, _, _, _, _, _, rfl, f1, f2, upd_same, f3, U'⟩
      · rw [decide_eq_false hij]
        refine iteF ?_
        have hij' : i ≠ j := fun e => hij (by rw [e])
        refine ⟨_, rfl, (n : Int), rfl, by omega, by omega, fun D1 hD1 => ?_⟩
        rw [show ((n : Int)).toNat = n from Int.toNat_natCast _]
        obtain ⟨nDp, nDR⟩ := hqD hD1
        refine lc_all walk_range hD1 (by omega) (fun _ _ => trivial) (fun k v _ => ∃ z, (addR n ms i j ((c : Int) - 1))[k]? = some z ∧ v = .int z) (fun _ _ _ _ _ _ _ h => h) ?_ gm_name ?_
        · rintro k y Ha Ha' acc Ko hk sa eDa ⟨rfl, rfl⟩ kk
          obtain ⟨e1, b1⟩ := hri k hk
          obtain ⟨e2, b2⟩ := hrj k hk
          refine ⟨rfl, ?_⟩
          refine ⟨_, rfl, _, rfl, R, ws, _, _, rfl, rfl, .inl (.inl (sa _ _ eR9)), at_of (j := i) rfl evi, _, rfl, ci, _, _, _, rfl, rfl, .inl (.inl (sa _ _ hci)), at_of (j := k) (by omega) (ints_at e1), ?_⟩
          refine ⟨_, rfl, _, rfl, _, rfl, R, ws, _, _, rfl, rfl, .inl (.inl (sa _ _ eR9)), at_of (j := j) rfl evj, _, rfl, cj, _, _, _, rfl, rfl, .inl (.inl (sa _ _ hcj)), at_of (j := k) (by omega) (ints_at e2), ?_⟩
          refine ⟨_, _, rfl, rfl, mulx_ok (show ((c : Int) - 1).natAbs < 2 ^ 8 by omega) b2 (by decide), ?_⟩
          refine ⟨_, _, rfl, rfl, ?_⟩
          exact kk _ _ (Same.refl _) ⟨_, by unfold addR; rw [List.getElem?_map, List.getElem?_range hk]; rfl, rfl⟩
        · intro Ha la sa eDa hpa
          have el := ints_list (by rw [addR_len]) hpa
          subst el
          have U' := uni_add (c := (c : Int) - 1) U n0 n3 hi hj hij' (by omega)
          obtain ⟨f1, f2, f3⟩ := fin D1 (addR n ms i j ((c : Int) - 1)) Ha sa nDp nDR eDa
          refine ⟨_, rfl, _, rfl, R, ws, _, i, rfl, rfl, sa _ _ eR9, ixN_nat (by omega), ?_⟩
          exact ⟨_, _, _, _, _, _, _, _, rfl, f1, f2, upd_same, f3, U'⟩
    · rintro σ H6 ⟨y3, y4, y5, y6, y7, y8, ws, ms, rfl, o6, st6, eR, hpw, U⟩
      refine ⟨_, rfl, q _ ms _ o6 st6 ⟨R, ws, rfl, hpR.symm, eR, L2.Paired.mapP hpw fun _ _ ⟨c, ev, n1, n2, e⟩ => ⟨c, ev, n1, n1, e⟩⟩ (uni_up U (by omega))⟩
theorem cal_law_unimodular (T : Top K mg) (hN : base.NoSeer) (hT : P.given.tree = none) : Cal P w K mg base 2 "_law_unimodular" sp_law_unimodular [] := ⟨⟨_, _, _, [], ok_law_unimodular T hN hT, T.g_law_unimodular, T.F_law_unimodular.kp, T.b_law_unimodular, .nil⟩⟩

end
end K39
namespace K39
open PySem PySem.Spec PyProof.Rows L2 Gm
open C8 (Cal Met Mak pe_c pe_mt pe_mt0 pe_mk)
section
variable {P : Program} {w : World} {K : PySem.W.Frag} {mg : Str → Option Value} {base : Heap}
/-! ### the form as a bilinear one -/
def BF (G : List (List Int)) (n : Nat) (f g : Nat → Int) : Int := sumF n fun i => sumF n fun j => f i * ent G i j * g j
abbrev fn (x : List Int) : Nat → Int := fun i => x.getD i 0
theorem prod_bf (G : List (List Int)) (x y : List Int) (n : Nat) : prodM G x y n = BF G n (fn x) (fn y) := rfl
theorem sumF_congr {n : Nat} {f g : Nat → Int} (h : ∀ i, i < n → f i = g i) : sumF n f = sumF n g := by
  induction n with
  | zero => rfl
  | succ n ih =>
    show sumF n f + f n = sumF n g + g n
    rw [ih fun i hi => h i (by omega), h n (by omega)]
theorem sumF_lin (n : Nat) (f g : Nat → Int) (a : Int) : sumF n (fun i => f i + a * g i) = sumF n f + a * sumF n g := by
  induction n with
  | zero => show (0 : Int) = 0 + a * 0; omega
  | succ n ih =>
    show sumF n (fun i => f i + a * g i) + (f n + a * g n) = sumF n f + f n + a * (sumF n g + g n)
    rw [ih]
    grind
theorem sumF_zero (n : Nat) : sumF n (fun _ => 0) = 0 := by
  induction n with
  | zero => rfl
  | succ n ih => show sumF n (fun _ => 0) + 0 = 0; rw [ih]; rfl
theorem sumF_mul (n : Nat) (f : Nat → Int) (a : Int) : sumF n (fun i => a * f i) = a * sumF n f := by
  have := sumF_lin n (fun _ => 0) f a
  rw [sumF_zero] at this
  rw [Int.zero_add] at this
  rw [← this]
  exact sumF_congr fun i _ => by omega
theorem bf_congr {G : List (List Int)} {n : Nat} {f g f' g' : Nat → Int} (h : ∀ i, i < n → f i = f' i) (k : ∀ i, i < n → g i = g' i) : BF G n f g = BF G n f' g' := sumF_congr fun i hi => sumF_congr fun j hj => by rw [h i hi, k j hj]
theorem bf_lin (G : List (List Int)) (n : Nat) (f g h : Nat → Int) (a : Int) : BF G n (fun i => f i + a * g i) h = BF G n f h + a * BF G n g h := by
  unfold BF
  rw [← sumF_lin]
  refine sumF_congr fun i _ => ?_
  rw [← sumF_lin]
  exact sumF_congr fun j _ => by grind
theorem bf_zero (G : List (List Int)) (n : Nat) (h : Nat → Int) : BF G n (fun _ => 0) h = 0 := by
  unfold BF
  rw [sumF_congr (g := fun _ => 0) fun i _ => ?_, sumF_zero]
  rw [sumF_congr (g := fun _ => 0) fun j _ => ?_, sumF_zero]
  rw [Int.zero_mul, Int.zero_mul]
theorem bf_sum (G : List (List Int)) (n : Nat) (h : Nat → Int) (a : Nat → Int) (u : Nat → Nat → Int) : ∀ m, BF G n (fun j => sumF m fun k => a k * u k j) h = sumF m fun k => a k * BF G n (u k) h
  | 0 => bf_zero G n h
  | m + 1 => by
    show BF G n (fun j => (sumF m fun k => a k * u k j) + a m * u m j) h = (sumF m fun k => a k * BF G n (u k) h) + a m * BF G n (u m) h
    rw [bf_lin, bf_sum G n h a u m]
theorem bf_sym {G : List (List Int)} {n : Nat} (D : Dom n G) (f g : Nat → Int) : BF G n f g = BF G n g f := by
  cases D with
  | one =>
    show 0 + (0 + f 0 * _ * g 0) = 0 + (0 + g 0 * _ * f 0)
    grind
  | @two x t u =>
    show 0 + (0 + f 0 * (1 + t + aI x) * g 0 + f 0 * x * g 1) + (0 + f 1 * x * g 0 + f 1 * (1 + u + aI x) * g 1) = 0 + (0 + g 0 * (1 + t + aI x) * f 0 + g 0 * x * f 1) + (0 + g 1 * x * f 0 + g 1 * (1 + u + aI x) * f 1)
    grind
  | @three x y z t u v =>
    show 0 + (0 + f 0 * (1 + t + (aI x + aI y)) * g 0 + f 0 * x * g 1 + f 0 * y * g 2) + (0 + f 1 * x * g 0 + f 1 * (1 + u + (aI x + aI z)) * g 1 + f 1 * z * g 2) + (0 + f 2 * y * g 0 + f 2 * z * g 1 + f 2 * (1 + v + (aI y + aI z)) * g 2) = 0 + (0 + g 0 * (1 + t + (aI x + aI y)) * f 0 + g 0 * x * f 1 + g 0 * y * f 2) + (0 + g 1 * x * f 0 + g 1 * (1 + u + (aI x + aI z)) * f 1 + g 1 * z * f 2) + (0 + g 2 * y * f 0 + g 2 * z * f 1 + g 2 * (1 + v + (aI y + aI z)) * f 2)
    grind
theorem bf_list (G : List (List Int)) (n : Nat) (f g : Nat → Int) : BF G n f g = prodM G ((List.range n).map f) ((List.range n).map g) n := by
  rw [prod_bf]
  have e : ∀ f : Nat → Int, ∀ i, i < n → f i = fn ((List.range n).map f) i := fun f i hi => by
    show f i = ((List.range n).map f).getD i 0
    rw [List.getD_eq_getElem?_getD, List.getElem?_map, List.getElem?_range hi]
    rfl
  exact bf_congr (e f) (e g)
theorem bf_nn {G : List (List Int)} {n : Nat} (D : Dom n G) (f : Nat → Int) : 0 ≤ BF G n f f := by
  rw [bf_list]
  exact (D.norm (by rw [List.length_map, List.length_range])).1
theorem bf_null {G : List (List Int)} {n : Nat} (D : Dom n G) {f : Nat → Int} (h : BF G n f f = 0) : ∀ i, i < n → f i = 0 := fun i hi => by
  rw [bf_list] at h
  have h1 := (D.norm (x := (List.range n).map f) (by rw [List.length_map, List.length_range])).2
  rw [h, decide_eq_false (by omega)] at h1
  rw [List.any_eq_false] at h1
  have := h1 (f i) (List.mem_map.mpr ⟨i, List.mem_range.mpr hi, rfl⟩)
  simpa using this
theorem bf_off {G : List (List Int)} {n : Nat} {f : Nat → Int} (h : ∀ i, i < n → f i = 0) (g : Nat → Int) : BF G n f g = 0 := by
  rw [bf_congr h (fun _ _ => rfl), bf_zero]
/-! ### two and three vectors -/
theorem g2_pos {G : List (List Int)} {n : Nat} (D : Dom n G) {u v : Nat → Int} (h : 0 < D2 (BF G n u u) (BF G n u v) (BF G n v u) (BF G n v v)) : 0 < BF G n u u := by
  have h1 := bf_nn D u
  have h2 := bf_nn D v
  rcases Int.lt_or_eq_of_le h1 with h3 | h3
  · exact h3
  · exfalso
    have h4 := bf_off (G := G) (bf_null D h3.symm) v
    rw [← h3, h4] at h
    unfold D2 at h
    rw [Int.zero_mul, Int.zero_mul] at h
    omega
/-- the second less a multiple of the first -/
theorem g2_id {G : List (List Int)} {n : Nat} (D : Dom n G) (u v w : Nat → Int) : BF G n (fun i => (0 + BF G n u u * v i) + -(BF G n u v) * u i) w = BF G n u u * BF G n v w - BF G n u v * BF G n u w := by
  rw [bf_lin G n (fun i => 0 + BF G n u u * v i) u w (-(BF G n u v)), bf_lin G n (fun _ => 0) v w (BF G n u u), bf_zero]
  grind
theorem bf_r {G : List (List Int)} {n : Nat} (D : Dom n G) {f : Nat → Int} (h : ∀ i, i < n → f i = 0) (g : Nat → Int) : BF G n g f = 0 := by rw [bf_sym D, bf_off h]
theorem g2_sq {G : List (List Int)} {n : Nat} (D : Dom n G) (u v : Nat → Int) : ∃ w : Nat → Int, BF G n w w = BF G n u u * D2 (BF G n u u) (BF G n u v) (BF G n v u) (BF G n v v) ∧ (∀ i, w i = BF G n u u * v i - BF G n u v * u i) ∧ ∀ z, BF G n w z = BF G n u u * BF G n v z - BF G n u v * BF G n u z := by
  refine ⟨fun i => (0 + BF G n u u * v i) + -(BF G n u v) * u i, ?_, fun i => by show (0 + BF G n u u * v i) + -(BF G n u v) * u i = _; grind, fun z => g2_id D u v z⟩
  rw [g2_id D, bf_sym D v (fun i => (0 + BF G n u u * v i) + -(BF G n u v) * u i), bf_sym D u (fun i => (0 + BF G n u u * v i) + -(BF G n u v) * u i), g2_id D, g2_id D, bf_sym D v u]
  unfold D2
  grind
theorem g3_pos {G : List (List Int)} {n : Nat} (D : Dom n G) {u v w : Nat → Int} (h : 0 < D3 (BF G n u u) (BF G n u v) (BF G n u w) (BF G n v u) (BF G n v v) (BF G n v w) (BF G n w u) (BF G n w v) (BF G n w w)) : 0 < BF G n u u ∧ 0 < D2 (BF G n u u) (BF G n u v) (BF G n v u) (BF G n v v) := by
  have h0 : 0 < BF G n u u := by
    rcases Int.lt_or_eq_of_le (bf_nn D u) with h3 | h3
    · exact h3
    · exfalso
      have hz := bf_null D h3.symm
      rw [← h3, bf_off hz v, bf_off hz w] at h
      unfold D3 at h
      rw [Int.zero_mul, Int.zero_mul, Int.zero_mul] at h
      omega
  refine ⟨h0, ?_⟩
  obtain ⟨z, hz, _, hzz⟩ := g2_sq D u v
  have hn := bf_nn D z
  rw [hz] at hn
  rcases Int.lt_trichotomy (D2 (BF G n u u) (BF G n u v) (BF G n v u) (BF G n v v)) 0 with h1 | h1 | h1
  · have := Int.mul_neg_of_pos_of_neg h0 h1
    omega
  · exfalso
    rw [h1, Int.mul_zero] at hz
    have hoff := bf_null D hz
    have e2 := hzz v
    have e3 := hzz w
    rw [bf_off hoff] at e2 e3
    rw [bf_sym D v u, bf_sym D w u, bf_sym D w v] at h
    have : BF G n u u * D3 (BF G n u u) (BF G n u v) (BF G n u w) (BF G n u v) (BF G n v v) (BF G n v w) (BF G n u w) (BF G n v w) (BF G n w w) = 0 := by
      unfold D3 D2
      generalize BF G n u u = a at *
      generalize BF G n u v = b at *
      generalize BF G n u w = c at *
      generalize BF G n v v = d at *
      generalize BF G n v w = e at *
      generalize BF G n w w = f at *
      have k2 : a * d = b * b := by omega
      have k3 : a * e = b * c := by omega
      grind
    have h5 := Int.mul_pos h0 h
    omega
  · exact h1

end
end K39
namespace K39
open PySem PySem.Spec PyProof.Rows L2 Gm
open C8 (Cal Met Mak pe_c pe_mt pe_mt0 pe_mk)
section
variable {P : Program} {w : World} {K : PySem.W.Frag} {mg : Str → Option Value} {base : Heap}
/-! ### the moved matrix -/
theorem dotI_comm (xs ys : List Int) : dotI xs ys = dotI ys xs := by
  unfold dotI
  rw [List.zipWith_comm]
  congr 2
  funext a b
  exact Int.mul_comm b a
theorem tt {n : Nat} {V : List (List Int)} (h : ∀ r ∈ V, r.length = n) : transp (transp V n) V.length = V := by
  unfold transp
  apply List.ext_getElem
  · rw [List.length_map, List.length_range]
  · intro i h1 h2
    rw [List.getElem_map, List.getElem_range, List.map_map]
    have hl := h _ (List.getElem_mem h2)
    apply List.ext_getElem
    · rw [List.length_map, List.length_range, hl]
    · intro j h3 h4
      rw [List.getElem_map, List.getElem_range]
      show (V.map fun r => r.getD j 0).getD i 0 = _
      rw [List.getD_eq_getElem?_getD, List.getElem?_map, List.getElem?_eq_getElem h2]
      show (V[i]).getD j 0 = _
      rw [List.getD_eq_getElem?_getD, List.getElem?_eq_getElem h4]
      rfl
theorem mov_eq {n : Nat} {G V : List (List Int)} (D : Dom n G) (hV : ∀ r ∈ V, r.length = n) : mulM (mulM V G n) (transp V n) V.length = movM G V n := by
  have e1 : mulM V G n = V.map fun r => timesM G r := by
    unfold mulM timesM
    rw [D.gram.sym]
    exact List.map_congr_left fun r _ => List.map_congr_left fun c _ => dotI_comm r c
  have e2 := tt hV
  rw [e1]
  unfold mulM
  rw [e2, List.map_map]
  unfold movM
  exact List.map_congr_left fun x hx => List.map_congr_left fun y hy => (D.prod (hV x hx) (hV y hy)).1
def sumN : Nat → (Nat → Nat) → Nat
  | 0, _ => 0
  | n + 1, f => sumN n f + f n
theorem sumN_le {n : Nat} {f g : Nat → Nat} (h : ∀ i, i < n → f i ≤ g i) : sumN n f ≤ sumN n g := by
  induction n with
  | zero => exact Nat.le_refl _
  | succ n ih =>
    have := ih fun i hi => h i (by omega)
    have := h n (by omega)
    show sumN n f + f n ≤ sumN n g + g n
    omega
theorem sumF_abs (n : Nat) (f : Nat → Int) : (sumF n f).natAbs ≤ sumN n fun i => (f i).natAbs := by
  induction n with
  | zero => exact Nat.le_refl _
  | succ n ih =>
    show (sumF n f + f n).natAbs ≤ (sumN n fun i => (f i).natAbs) + (f n).natAbs
    have := Int.natAbs_add_le (sumF n f) (f n)
    omega
theorem sumN_mul (n : Nat) (f : Nat → Nat) (a : Nat) : sumN n (fun i => a * f i) = a * sumN n f := by
  induction n with
  | zero => rfl
  | succ n ih =>
    show sumN n (fun i => a * f i) + a * f n = a * (sumN n f + f n)
    rw [ih, Nat.mul_add]
theorem sumN_list (n : Nat) (f : Nat → Nat) : sumN n f = ((List.range n).map f).sum := by
  induction n with
  | zero => rfl
  | succ n ih =>
    rw [List.range_succ, List.map_append, List.sum_append]
    show sumN n f + f n = _ + (f n + 0)
    rw [ih]
    omega
theorem sumN_l1 {n : Nat} {x : List Int} (h : x.length = n) : sumN n (fun i => (fn x i).natAbs) = l1 x := by
  rw [sumN_list]
  unfold l1
  congr 1
  apply List.ext_getElem
  · rw [List.length_map, List.length_range, List.length_map, h]
  · intro i h1 h2
    rw [List.getElem_map, List.getElem_range, List.getElem_map]
    rw [List.length_map] at h2
    show (x.getD i 0).natAbs = _
    rw [List.getD_eq_getElem?_getD, List.getElem?_eq_getElem h2]
    rfl
theorem dom_small {n : Nat} {G : List (List Int)} (D : Dom n G) : ∀ r ∈ G, ∀ z ∈ r, z.natAbs ≤ 6 := by
  cases D with
  | @one t t0 t3 =>
    intro r hr z hz
    simp only [List.mem_cons, List.not_mem_nil, or_false] at hr
    subst hr
    simp only [List.mem_cons, List.not_mem_nil, or_false] at hz
    omega
  | @two p t u hp t0 t3 u0 u3 =>
    obtain ⟨h1, h2, h3⟩ := hp.a01
    intro r hr z hz
    simp only [List.mem_cons, List.not_mem_nil, or_false] at hr
    rcases hr with rfl | rfl <;> simp only [List.mem_cons, List.not_mem_nil, or_false] at hz <;> rcases hz with rfl | rfl <;> omega
  | @three p q r0 t u v hp hq hr0 t0 t3 u0 u3 v0 v3 =>
    obtain ⟨h1, h2, h3⟩ := hp.a01
    obtain ⟨h4, h5, h6⟩ := hq.a01
    obtain ⟨h7, h8, h9⟩ := hr0.a01
    intro r hr z hz
    simp only [List.mem_cons, List.not_mem_nil, or_false] at hr
    rcases hr with rfl | rfl | rfl <;> simp only [List.mem_cons, List.not_mem_nil, or_false] at hz <;> rcases hz with rfl | rfl | rfl <;> omega
theorem mov_bd {n : Nat} {G : List (List Int)} {x y : List Int} (D : Dom n G) (hx : x.length = n) (hy : y.length = n) (bx : l1 x ≤ 8) (bY : l1 y ≤ 8) : (prodM G x y n).natAbs < 2 ^ 10 := by
  have h1 : (prodM G x y n).natAbs ≤ l1 x * (6 * l1 y) := by
    unfold prodM
    refine Nat.le_trans (sumF_abs n _) ?_
    rw [Nat.mul_comm, ← sumN_l1 hx, ← sumN_mul]
    refine sumN_le fun i hi => ?_
    refine Nat.le_trans (sumF_abs n _) ?_
    rw [Nat.mul_right_comm, ← sumN_l1 hy, ← sumN_mul]
    refine sumN_le fun j hj => ?_
    obtain ⟨r, er, erk, _⟩ := ent_get D.gram.sq hi hj
    have h2 := dom_small D r (List.mem_of_getElem? er) _ (List.mem_of_getElem? erk)
    rw [Int.natAbs_mul, Int.natAbs_mul]
    refine Nat.mul_le_mul_right _ ?_
    rw [Nat.mul_comm]
    exact Nat.mul_le_mul_right _ h2
  have h2 : l1 x * (6 * l1 y) ≤ 8 * (6 * 8) := Nat.mul_le_mul bx (Nat.mul_le_mul_left 6 bY)
  omega
theorem movM_len {G V : List (List Int)} {n : Nat} : (movM G V n).length = V.length := List.length_map ..
theorem mov_sq {n : Nat} {G V : List (List Int)} (D : Dom n G) (hV : ∀ r ∈ V, r.length = n ∧ l1 r ≤ 8) : Sq V.length 10 (movM G V n) := by
  refine ⟨movM_len, fun r hr => ?_, fun r hr z hz => ?_⟩
  · obtain ⟨x, _, rfl⟩ := List.mem_map.mp hr
    exact List.length_map ..
  · obtain ⟨x, hx, rfl⟩ := List.mem_map.mp hr
    obtain ⟨y, hy, rfl⟩ := List.mem_map.mp hz
    exact mov_bd D (hV x hx).1 (hV y hy).1 (hV x hx).2 (hV y hy).2
theorem prod_sym {n : Nat} {G : List (List Int)} (D : Dom n G) (x y : List Int) : prodM G x y n = prodM G y x n := bf_sym D (fn x) (fn y)
theorem mov_gram {n : Nat} {G V : List (List Int)} (D : Dom n G) (hV : ∀ r ∈ V, r.length = n ∧ l1 r ≤ 8) (k0 : 0 < V.length) (k3 : V.length ≤ 3) (hd : 0 < detL V.length (movM G V n)) : Gram V.length (movM G V n) := by
  refine ⟨mov_sq D hV, k0, by omega, ?_, ?_⟩
  · match V, k0, k3 with
    | [x], _, _ => rfl
    | [x, y], _, _ =>
      show [[prodM G x x n, prodM G y x n], [prodM G x y n, prodM G y y n]] = [[prodM G x x n, prodM G x y n], [prodM G y x n, prodM G y y n]]
      rw [prod_sym D y x]
    | [x, y, z], _, _ =>
      show [[prodM G x x n, prodM G y x n, prodM G z x n], [prodM G x y n, prodM G y y n, prodM G z y n], [prodM G x z n, prodM G y z n, prodM G z z n]] = [[prodM G x x n, prodM G x y n, prodM G x z n], [prodM G y x n, prodM G y y n, prodM G y z n], [prodM G z x n, prodM G z y n, prodM G z z n]]
      rw [prod_sym D y x, prod_sym D z x, prod_sym D z y]
  · match V, k0, k3, hd with
    | [x], _, _, hd =>
      show posM 1 [[prodM G x x n]] = true
      have hd : 0 < detL 1 [[prodM G x x n]] := hd
      rw [detL1] at hd
      rw [pos_1]
      exact hd
    | [x, y], _, _, hd =>
      show posM 2 [[prodM G x x n, prodM G x y n], [prodM G y x n, prodM G y y n]] = true
      have hd : 0 < detL 2 [[prodM G x x n, prodM G x y n], [prodM G y x n, prodM G y y n]] := hd
      rw [detL2] at hd
      rw [pos_2]
      exact ⟨g2_pos D hd, hd⟩
    | [x, y, z], _, _, hd =>
      show posM 3 [[prodM G x x n, prodM G x y n, prodM G x z n], [prodM G y x n, prodM G y y n, prodM G y z n], [prodM G z x n, prodM G z y n, prodM G z z n]] = true
      have hd : 0 < detL 3 [[prodM G x x n, prodM G x y n, prodM G x z n], [prodM G y x n, prodM G y y n, prodM G y z n], [prodM G z x n, prodM G z y n, prodM G z z n]] := hd
      rw [detL3] at hd
      rw [pos_3]
      have h := g3_pos D hd
      exact ⟨h.1, h.2, hd⟩
theorem sq_one {a : Int} (h : a.natAbs = 1) (b : Int) : a * b * a = b := by
  rcases (show a = 1 ∨ a = -1 by omega) with rfl | rfl <;> omega
theorem mov_uni {n t : Nat} {G U : List (List Int)} (D : Dom n G) (h : Uni n t U) : detL n (movM G U n) = detL n G := by
  have h3 := D.n3
  have e := mov_eq D h.sz.row
  rw [h.sz.len] at e
  rw [← e, det_mul (by omega) (mulM_sz h.sz.len) (transp_sz h.sz.len), det_mul (by omega) h.sz D.gram.sq.sz, det_tr (by omega) h.sz]
  exact sq_one h.det _
theorem uni_pos {n t : Nat} {G U : List (List Int)} (D : Dom n G) (h : Uni n t U) : 0 < detL n (movM G U n) := by
  rw [mov_uni D h]
  have g := D.gram
  have hp := g.pos
  unfold posM at hp
  rw [List.all_eq_true] at hp
  have h3 := D.n3
  have := hp (n - 1) (List.mem_range.mpr (by omega))
  have e1 : n - 1 + 1 = n := by omega
  rw [e1, decide_eq_true_iff] at this
  have e2 : upL G n = G := by
    unfold upL
    rw [List.take_of_length_le (by rw [g.sq.len]; exact Nat.le_refl _)]
    have e3 : G.map (fun r => r.take n) = G.map id := List.map_congr_left fun r hr => List.take_of_length_le (by rw [g.sq.row r hr]; exact Nat.le_refl _)
    rw [List.map_id] at e3
    exact e3
  rwa [e2] at this

end
end K39
namespace K39
open PySem PySem.Spec PyProof.Rows L2 Gm
open C8 (Cal Met Mak pe_c pe_mt pe_mt0 pe_mk)
section
variable {P : Program} {w : World} {K : PySem.W.Frag} {mg : Str → Option Value} {base : Heap}
/-! ### any minor, the inverse -/
theorem paired_erase {α β : Type} {F : α → β → Prop} : ∀ {xs : List α} {ys : List β} (i : Nat), Paired F xs ys → Paired F (xs.eraseIdx i) (ys.eraseIdx i)
  | _, _, _, .nil => .nil
  | _, _, 0, .cons _ t => t
  | _, _, i + 1, .cons r t => .cons r (paired_erase i t)
def sp_law_minor_g : Sp := fun vs H Q _ => ∃ (v : V) (m : List (List Int)) (n B i k : Nat), vs = [v, .int (0 + (i : Int)), .int (0 + (k : Int))] ∧ LRows H v m ∧ Sq (n + 1) B m ∧ i < n + 1 ∧ k < n + 1 ∧ n ≤ 5 ∧ ∀ v' H', Same H H' → LRows H' v' (cutM m i k) → Q v' H'
theorem ok_law_minor_g (T : Top K mg) (hN : base.NoSeer) (hT : P.given.tree = none) : FnOk P w K mg base CX0 1 T.a_law_minor T.d_law_minor ["rows", "i", "j"] sp_law_minor_g := by
  refine T.F_law_minor.ok sc_law_minor (fun vs H Q E h => ?_) (fun cdv A outer s H vs Q E hr h => ?_)
  · obtain ⟨v, m, n, B, i, k, rfl, _⟩ := h
    rfl
  · obtain ⟨v, m, n, B, i, k, rfl, ⟨a, ws, rfl, hs, hp⟩, sq, hi, hk, hn, q⟩ := h
    refine ⟨_, (pss_one (ps_ret (pe_lc (own := [("row", 3)]) (g := (gName 3)) (by rfl) sc_law_minor.nd (piS K rfl (pe_op op_cat (pe_slice (slLK K rfl) (pv 0) po_none (po_some (pv 1))) (pe_slice (slLK K rfl) (pv 0) (po_some (pe_op op_add (pv 1) pe_int)) po_none))) ((by show BlkOk ["rows", "i", "j", "row"] (defScope s_law_minor) _ _; exact blkOk_by (by decide +kernel))) (fun _ _ _ _ _ => (pg_name (i := 3) sc_law_minor.nd rfl (by first | exact .inl rfl | exact .inr rfl))) (fun _ _ _ _ _ => pts_nil) (fun _ _ _ _ _ => (pe_op op_cat (pe_slice (slLK K rfl) (pv 3) po_none (po_some (pv 2))) (pe_slice (slLK K rfl) (pv 3) (po_some (pe_op op_add (pv 2) pe_int)) po_none)))))), ?_⟩
    have lw := Paired.length hp
    have lm := sq.len
    refine ⟨_, rfl, _, rfl, 0 + (i : Int), rfl, ?_⟩
    refine sl_lst hs fun p0 n0 => ?_
    have s1 := same_upd (o := .lst (cutV ws none (some (0 + (i : Int))))) n0
    have hp0 : (upd H p0 (.lst (cutV ws none (some (0 + (i : Int)))))) p0 = some (.lst (ws.take i)) := by
      rw [upd_same, Int.zero_add, cut_take]
    generalize upd H p0 (.lst (cutV ws none (some (0 + (i : Int))))) = H1 at s1 hp0 ⊢
    refine ⟨_, rfl, _, rfl, 0 + (i : Int), 1, rfl, rfl, _, rfl, ?_⟩
    dsimp only [tNoPart]
    refine sl_lst (s1 _ _ hs) fun p1 n1 => ?_
    have s2 := same_upd (o := .lst (cutV ws (some (0 + (i : Int) + 1)) none)) n1
    have hp1 : (upd H1 p1 (.lst (cutV ws (some (0 + (i : Int) + 1)) none))) p1 = some (.lst (ws.drop (i + 1))) := by
      rw [upd_same, show (0 + (i : Int) + 1) = ((i + 1 : Nat) : Int) by omega, cut_drop]
    generalize upd H1 p1 (.lst (cutV ws (some (0 + (i : Int) + 1)) none)) = H2 at s2 hp1 ⊢
    refine ⟨p0, p1, _, _, rfl, rfl, s2 _ _ hp0, hp1, Nat.le_of_lt (small1000 (by simp only [List.length_take, List.length_drop]; omega)), fun p2 n2 => ?_⟩
    have s3' := same_upd (o := .lst (ws.take i ++ ws.drop (i + 1))) n2
    have hp2 : (upd H2 p2 (.lst (ws.take i ++ ws.drop (i + 1)))) p2 = some (.lst (ws.eraseIdx i)) := by rw [upd_same, List.eraseIdx_eq_take_drop_succ]
    generalize upd H2 p2 (.lst (ws.take i ++ ws.drop (i + 1))) = H3 at s3' hp2 ⊢
    have s3 := s1.trans (s2.trans s3')
    have hpe := paired_erase i hp
    have lwe : (ws.eraseIdx i).length = n := by rw [List.length_eraseIdx_of_lt (by omega)]; omega
    refine ⟨p2, ws.eraseIdx i, rfl, .inl (.inl (.inl hp2)), fun J G W hG D hD => ?_⟩
    have lrest : (cutM m i k).length = n := by unfold cutM; rw [List.length_map, ← Paired.length hpe, lwe]
    refine lc_all W hD (by omega) (fun H4 s4 => hG H4 fun b _ o => s4 b o) (fun j v H4 => ∃ r, (cutM m i k)[j]? = some r ∧ ∃ p, v = V.ref p ∧ p ≠ D ∧ H4 p = some (.lst (r.map V.int))) lmono ?_ gm_name ?_
    · rintro j x H4 H4' acc Ko hj s4 eD ⟨rfl, ex⟩ kc
      obtain ⟨r, er, b, rfl, hb⟩ := Paired.getR hpe ex
      have hrl := sq.row r (List.mem_of_mem_eraseIdx (List.mem_of_getElem? er))
      have hb4 := (s3.trans s4) _ _ hb
      refine ⟨rfl, ?_⟩
      refine ⟨_, rfl, _, rfl, 0 + (k : Int), rfl, ?_⟩
      refine sl_lst hb4 fun p2 n2 => ?_
      have s5 := same_upd (o := .lst (cutV (r.map V.int) none (some (0 + (k : Int))))) n2
      have hp2 : (upd H4' p2 (.lst (cutV (r.map V.int) none (some (0 + (k : Int)))))) p2 = some (.lst ((r.map V.int).take k)) := by
        rw [upd_same, Int.zero_add, cut_take]
      generalize upd H4' p2 (.lst (cutV (r.map V.int) none (some (0 + (k : Int))))) = H5 at s5 hp2 ⊢
      refine ⟨_, rfl, _, rfl, 0 + (k : Int), 1, rfl, rfl, _, rfl, ?_⟩
      dsimp only [tNoPart]
      refine sl_lst (s5 _ _ hb4) fun p3 n3 => ?_
      have s6 := same_upd (o := .lst (cutV (r.map V.int) (some (0 + (k : Int) + 1)) none)) n3
      have hp3 : (upd H5 p3 (.lst (cutV (r.map V.int) (some (0 + (k : Int) + 1)) none))) p3 = some (.lst ((r.map V.int).drop (k + 1))) := by
        rw [upd_same, show (0 + (k : Int) + 1) = ((k + 1 : Nat) : Int) by omega, cut_drop]
      generalize upd H5 p3 (.lst (cutV (r.map V.int) (some (0 + (k : Int) + 1)) none)) = H6 at s6 hp3 ⊢
      refine ⟨p2, p3, _, _, rfl, rfl, s6 _ _ hp2, hp3, Nat.le_of_lt (small1000 (by simp only [List.length_take, List.length_drop, List.length_map]; omega)), fun p4 n4 => ?_⟩
      have s7 := same_upd (o := .lst ((r.map V.int).take k ++ (r.map V.int).drop (k + 1))) n4
      have eD6 := s6 _ _ (s5 _ _ eD)
      refine kc _ _ (s5.trans (s6.trans s7)) ⟨r.eraseIdx k, by unfold cutM; rw [List.getElem?_map, er]; rfl, p4, rfl, ?_, ?_⟩
      · rintro rfl
        rw [eD6] at n4
        cases n4
      · rw [upd_same, ← erase_eq, List.map_append, List.map_take, List.map_drop]
    · intro H4 l s4 eD hpl
      exact q (.ref D) H4 (s3.trans s4) (lrows_of (by rw [lrest, lwe]) eD hpl)
theorem cal_law_minor_g (T : Top K mg) (hN : base.NoSeer) (hT : P.given.tree = none) : Cal P w K mg base 1 "_law_minor" sp_law_minor_g [] := ⟨⟨_, _, _, [], ok_law_minor_g T hN hT, T.g_law_minor, T.F_law_minor.kp, T.b_law_minor, .nil⟩⟩
def invM (n : Nat) (m : List (List Int)) : List (List Int) := (List.range n).map fun i => (List.range n).map fun k => detL n m * ent (dueM n m) i k
theorem due_ent {n i k : Nat} {m : List (List Int)} (hi : i < n) (hk : k < n) : ent (dueM n m) i k = sgn (i + k) * detL (n - 1) (cutM m k i) := by
  unfold ent dueM
  rw [List.getD_eq_getElem?_getD (l := List.map _ _), List.getElem?_map, List.getElem?_range hi]
  show ((List.range n).map fun k => sgn (i + k) * detL (n - 1) (cutM m k i)).getD k 0 = _
  rw [List.getD_eq_getElem?_getD, List.getElem?_map, List.getElem?_range hk]
  rfl
theorem det_bits {n B W : Nat} {m : List (List Int)} (hn : n ≤ 4) (hB : B ≤ 1200000) (hW : W = 5000000) (h : Sq n B m) : (detL n m).natAbs < 2 ^ W := by
  refine Nat.lt_of_lt_of_le (detL_le (by omega) h) (Nat.pow_le_pow_right (by decide) ?_)
  have : n * (B + 8) ≤ 4 * (1200000 + 8) := Nat.mul_le_mul hn (by omega)
  omega
def sp_law_inverse : Sp := fun vs H Q _ => ∃ (p : Addr) (v : V) (m : List (List Int)) (n B : Nat), vs = [v] ∧ StAt H p ∧ LRows H v m ∧ Sq n B m ∧ n ≤ 3 ∧ B ≤ 1000 ∧ ∀ v' H', Same H H' → LAs p H' v' (invM n m) → Q v' H'
theorem ok_law_inverse (T : Top K mg) (hN : base.NoSeer) (hT : P.given.tree = none) : FnOk P w K mg base CX0 11 T.a_law_inverse T.d_law_inverse ["rows"] sp_law_inverse := by
  refine T.F_law_inverse.ok sc_law_inverse (fun vs H Q E h => ?_) (fun cdv A outer s H vs Q E hr h => ?_)
  · obtain ⟨p, v, m, n, B, rfl, _⟩ := h
    rfl
  · obtain ⟨p, v, m, n, B, rfl, st, hv, sq, hn, hB, q⟩ := h
    obtain ⟨a, ws, rfl, ha, hp⟩ := id hv
    have lw := Paired.length hp
    have lm := sq.len
    refine ⟨_, (pss_cons (ps_set (i := 1) sc_law_inverse.nd rfl (by first | exact .inl rfl | exact .inr rfl) (pe_callB (lenS K rfl) (by rfl) T.z_len (by decide +kernel) (pa_cons (pv 0) pa_nil)))
      (pss_cons (ps_set (i := 2) sc_law_inverse.nd rfl (by first | exact .inl rfl | exact .inr rfl) (pe_c (cal_law_determinant T hN hT) hr (by decide) (by rfl) (pa_cons (pv 0) pa_nil)))
      (pss_cons (ps_set (i := 3) sc_law_inverse.nd rfl (by first | exact .inl rfl | exact .inr rfl) (pe_lst pa_nil))
      (pss_cons (ps_for PassesOwn.never rfl (pi_range1 (by rfl) T.z_range (pa_cons (pv 1) pa_nil)) (pg_name (i := 4) sc_law_inverse.nd rfl (by first | exact .inl rfl | exact .inr rfl))
      (pss_cons (ps_set (i := 5) sc_law_inverse.nd rfl (by first | exact .inl rfl | exact .inr rfl) (pe_lst pa_nil))
      (pss_cons (ps_for PassesOwn.never rfl (pi_range1 (by rfl) T.z_range (pa_cons (pv 1) pa_nil)) (pg_name (i := 6) sc_law_inverse.nd rfl (by first | exact .inl rfl | exact .inr rfl))
      (pss_cons (ps_set (i := 7) sc_law_inverse.nd rfl (by first | exact .inl rfl | exact .inr rfl) (pe_ifExp (pt_cmpR op_eq (pe_op op_mod (pe_op op_add (pv 4) (pv 6)) pe_int) pe_int (nomark _)) pe_int (pe_un un_neg pe_int)))
      (pss_one (ps_expr (pe_bm PySem.F.plainAttrs_list PySem.F.slot_list_append PySem.F.type_list_append mt_append (pv 5) (pa_cons (pe_op op_mulX (pe_op op_mulX (pv 2) (pv 7)) (pe_c (cal_law_determinant T hN hT) hr (by decide) (by rfl) (pa_cons (pe_c (cal_law_minor_g T hN hT) hr (by decide) (by rfl) (pa_cons (pv 0) (pa_cons (pv 6) (pa_cons (pv 4) pa_nil)))) pa_nil))) pa_nil))))))
      (pss_one (ps_expr (pe_bm PySem.F.plainAttrs_list PySem.F.slot_list_append PySem.F.type_list_append mt_append (pv 3) (pa_cons (pv 5) pa_nil)))))))
      (pss_one (ps_ret (pv 3))))))), ?_⟩
    refine ⟨_, rfl, a, ws, rfl, .inl (.inl (.inl ha)), ?_⟩
    refine ⟨_, rfl, n, by omega, .ref a, m, B, rfl, hv, sq, by omega, fun H1 s1 => ?_⟩
    refine ⟨by show 0 ≤ sizeLine; decide, fun R nR => ?_⟩
    have s2 := s1.trans (same_upd (o := .lst []) nR)
    have eR0 : (upd H1 R (.lst [])) R = some (.lst []) := upd_same
    generalize upd H1 R (.lst []) = Hz at s2 eR0 ⊢
    have nRH : H R = none := by
      cases hh : H R with
      | none => rfl
      | some o => rw [s1 _ _ hh] at nR; cases nR
    have linv : (invM n m).length = n := by unfold invM; rw [List.length_map, List.length_range]
    refine ⟨_, rfl, _, rfl, by omega, by omega, ?_⟩
    refine for_it walk_range (fun i σ H2 => ∃ (y4 y5 y6 y7 : Option V) (l : List V), σ = [some (.ref a), some (.int (ws.length : Nat)), some (.int (detL n m)), some (.ref R), y4, y5, y6, y7] ∧ Same H H2 ∧ H2 R = some (.lst l) ∧ Paired (LA p R H2) l ((invM n m).take i)) ⟨none, none, none, none, [], rfl, s2, eR0, by rw [List.take_zero]; exact .nil⟩ (fun _ _ _ _ _ => trivial) ?_ ?_
    · rintro i x σ H2 H2' hi ⟨y4, y5, y6, y7, l, rfl, s3, eR, hl⟩ ⟨rfl, rfl⟩
      have hi' : i < n := by omega
      have hll := Paired.length hl
      rw [List.length_take] at hll
      refine ⟨by show 0 ≤ sizeLine; decide, fun L nL => ?_⟩
      have s4 : Same H2' (upd H2' L (.lst [])) := same_upd nL
      have eL0 : (upd H2' L (.lst [])) L = some (.lst []) := upd_same
      generalize upd H2' L (.lst []) = H3 at s4 eL0 ⊢
      have hLR : L ≠ R := fun e => by rw [e, eR] at nL; cases nL
      have hLp : L ≠ p := ((st.same s3).ne nL).symm
      refine ⟨_, rfl, _, rfl, by omega, by omega, ?_⟩
      obtain ⟨row, hrow⟩ : ∃ row, ((List.range n).map fun k => detL n m * ent (dueM n m) i k) = row := ⟨_, rfl⟩
      have lrow : row.length = n := by rw [← hrow, List.length_map, List.length_range]
      have egi : (invM n m)[i]? = some row := by
        unfold invM
        rw [List.getElem?_map, List.getElem?_range hi', ← hrow]
        rfl
      refine for_it walk_range (fun k σ H4 => ∃ (y6 y7 : Option V), σ = [some (.ref a), some (.int (ws.length : Nat)), some (.int (detL n m)), some (.ref R), some (.int (0 + (i : Int))), some (.ref L), y6, y7] ∧ Same H2' H4 ∧ H4 L = some (.lst ((row.take k).map V.int))) ⟨y6, y7, rfl, s4, by rw [List.take_zero]; exact eL0⟩ (fun _ _ _ _ _ => trivial) ?_ ?_
      · rintro k x σ H4 H4' hk ⟨y6, y7, rfl, s5, eL⟩ ⟨rfl, rfl⟩
        have hk' : k < n := by omega
        obtain ⟨n', rfl⟩ : ∃ n', n = n' + 1 := ⟨n - 1, by omega⟩
        have sqc := cutM_sq sq hk' hi'
        have erk : row[k]? = some (detL (n' + 1) m * ent (dueM (n' + 1) m) i k) := by
          rw [← hrow, List.getElem?_map, List.getElem?_range hk']
          rfl
        refine ⟨_, rfl, _, rfl, _, _, rfl, rfl, _, _, rfl, rfl, (by show (0 : Int) < 2; decide), rfl, _, rfl, ?_⟩
        by_cases he : (0 + (i : Int) + (0 + (k : Int))) % 2 = 0
        · rw [show decide (V.int ((0 + (i : Int) + (0 + (k : Int))) % 2) = V.int 0) = true from decide_eq_true (congrArg V.int he)]
          refine iteT ?_
          have hs : (1 : Int) = sgn (i + k) := by
            unfold sgn
            omega
          obtain ⟨hd1, hd2, hlt⟩ : (detL (n' + 1) m).natAbs < 2 ^ 5000000 ∧ (detL n' (cutM m k i)).natAbs < 2 ^ 5000000 ∧ True := ⟨det_bits (by omega) (by omega) rfl sq, det_bits (by omega) (by omega) rfl sqc, trivial⟩
          refine ⟨_, rfl, .inl ⟨rfl, _, .inl (.inl eL)⟩, _, rfl, _, rfl, _, _, rfl, rfl, mulx_ok hd1 (show (1 : Int).natAbs < 2 ^ 1 by decide) (by decide), ?_⟩
          refine ⟨_, rfl, _, rfl, _, rfl, .ref a, m, n', B, k, i, rfl, LRows.same (s3.trans s5) hv, sq, hk', hi', by omega, fun v' H5 s6 hv' => ?_⟩
          refine ⟨n', by omega, v', cutM m k i, B, rfl, hv', sqc, by omega, fun H6 s7 => ?_⟩
          have hd12 : (detL (n' + 1) m * 1).natAbs < 2 ^ 5000000 := by
            rw [show (detL (n' + 1) m * 1).natAbs = (detL (n' + 1) m).natAbs by rw [Int.natAbs_mul]; show _ * 1 = _; rw [Nat.mul_one]]
            exact hd1
          refine ⟨_, _, rfl, rfl, mulx_ok hd12 hd2 (by decide), ?_⟩
          have eL6 := s7 _ _ (s6 _ _ eL)
          refine ⟨L, _, _, rfl, rfl, eL6, small1000 (by rw [List.length_map, List.length_take]; omega), ?_⟩
          refine ⟨_, _, rfl, fun c o h => ?_, ?_⟩
          · rw [upd_ne (ne_of_none h nL)]
            exact s7 _ _ (s6 _ _ (s5 _ _ h))
          · rw [upd_same, List.take_add_one, erk, List.map_append]
            show some (HO.lst (_ ++ [V.int (detL (n' + 1) m * 1 * detL n' (cutM m k i))])) = some (HO.lst (_ ++ [V.int (detL (n' + 1) m * ent (dueM (n' + 1) m) i k)]))
            rw [due_ent hi' hk', ← hs, Nat.add_sub_cancel, Int.mul_assoc]
        · rw [show decide (V.int ((0 + (i : Int) + (0 + (k : Int))) % 2) = V.int 0) = false from decide_eq_false fun e => he (V.int.inj e)]
          refine iteF ?_
          have hs : (-1 : Int) = sgn (i + k) := by
            unfold sgn
            omega
          refine ⟨_, rfl, ?_⟩
          obtain ⟨hd1, hd2, hlt⟩ : (detL (n' + 1) m).natAbs < 2 ^ 5000000 ∧ (detL n' (cutM m k i)).natAbs < 2 ^ 5000000 ∧ True := ⟨det_bits (by omega) (by omega) rfl sq, det_bits (by omega) (by omega) rfl sqc, trivial⟩
          refine ⟨_, rfl, .inl ⟨rfl, _, .inl (.inl eL)⟩, _, rfl, _, rfl, _, _, rfl, rfl, mulx_ok hd1 (show (-1 : Int).natAbs < 2 ^ 1 by decide) (by decide), ?_⟩
          refine ⟨_, rfl, _, rfl, _, rfl, .ref a, m, n', B, k, i, rfl, LRows.same (s3.trans s5) hv, sq, hk', hi', by omega, fun v' H5 s6 hv' => ?_⟩
          refine ⟨n', by omega, v', cutM m k i, B, rfl, hv', sqc, by omega, fun H6 s7 => ?_⟩
          have hd12 : (detL (n' + 1) m * (-1)).natAbs < 2 ^ 5000000 := by
            rw [show (detL (n' + 1) m * (-1)).natAbs = (detL (n' + 1) m).natAbs by rw [Int.natAbs_mul]; show _ * 1 = _; rw [Nat.mul_one]]
            exact hd1
          refine ⟨_, _, rfl, rfl, mulx_ok hd12 hd2 (by decide), ?_⟩
          have eL6 := s7 _ _ (s6 _ _ eL)
          refine ⟨L, _, _, rfl, rfl, eL6, small1000 (by rw [List.length_map, List.length_take]; omega), ?_⟩
          refine ⟨_, _, rfl, fun c o h => ?_, ?_⟩
          · rw [upd_ne (ne_of_none h nL)]
            exact s7 _ _ (s6 _ _ (s5 _ _ h))
          · rw [upd_same, List.take_add_one, erk, List.map_append]
            show some (HO.lst (_ ++ [V.int (detL (n' + 1) m * (-1) * detL n' (cutM m k i))])) = some (HO.lst (_ ++ [V.int (detL (n' + 1) m * ent (dueM (n' + 1) m) i k)]))
            rw [due_ent hi' hk', ← hs, Nat.add_sub_cancel, Int.mul_assoc]
      · rintro σ H4 ⟨y6, y7, rfl, s5, eL⟩
        rw [List.take_of_length_le (by omega)] at eL
        have eR4 := s5 _ _ eR
        refine ⟨_, rfl, .inl ⟨rfl, _, .inl (.inl eR4)⟩, _, rfl, R, l, _, rfl, rfl, eR4, small1000 (by omega), ?_⟩
        refine ⟨_, _, _, _, _, rfl, fun c o h => ?_, upd_same, ?_⟩
        · rw [upd_ne (ne_of_none h nRH)]
          exact s5 _ _ (s3 _ _ h)
        · rw [List.take_add_one, egi]
          refine Paired.snoc (L2.Paired.mapP hl fun _ _ h => LA.offR Off.upd (LA.same s5 h)) ⟨L, rfl, hLp, hLR, by rw [upd_ne hLR]; exact eL⟩
    · rintro σ H2 ⟨y4, y5, y6, y7, l, rfl, s3, eR, hl⟩
      rw [List.take_of_length_le (by omega)] at hl
      exact ⟨_, rfl, q _ _ s3 ⟨R, l, rfl, (st.ne nRH).symm, eR, L2.Paired.mapP hl fun _ _ ⟨c, e1, n1, n2, e3⟩ => ⟨c, e1, n1, n1, e3⟩⟩⟩
theorem cal_law_inverse (T : Top K mg) (hN : base.NoSeer) (hT : P.given.tree = none) : Cal P w K mg base 11 "_law_inverse" sp_law_inverse [] := ⟨⟨_, _, _, [], ok_law_inverse T hN hT, T.g_law_inverse, T.F_law_inverse.kp, T.b_law_inverse, .nil⟩⟩

end
end K39
namespace K39
open PySem PySem.Spec PyProof.Rows L2 Gm
open C8 (Cal Met Mak pe_c pe_mt pe_mt0 pe_mk)
section
variable {P : Program} {w : World} {K : PySem.W.Frag} {mg : Str → Option Value} {base : Heap}
theorem bits_up {B B' : Nat} {x : List Int} (h : Bits B x) (hB : B ≤ B') : Bits B' x := fun z hz => Nat.lt_of_lt_of_le (h z hz) (Nat.pow_le_pow_right (by decide) hB)
theorem dot_bits5 {B1 B2 : Nat} {xs ys : List Int} (h1 : Bits B1 xs) (h2 : Bits B2 ys) : ∀ n, xs.length ≤ n → n ≤ 7 → (dotI xs ys).natAbs < 2 ^ (B1 + B2 + 3) := by
  have key : ∀ (xs ys : List Int), Bits B1 xs → Bits B2 ys → (dotI xs ys).natAbs ≤ xs.length * (2 ^ B1 * 2 ^ B2) := fun xs => by
    induction xs with
    | nil => intro ys _ _; exact Nat.zero_le _
    | cons a xs ih =>
      intro ys h1 h2
      cases ys with
      | nil => exact Nat.zero_le _
      | cons b ys =>
        have e : dotI (a :: xs) (b :: ys) = a * b + dotI xs ys := rfl
        have i1 := ih ys (fun z hz => h1 z (List.mem_cons_of_mem _ hz)) (fun z hz => h2 z (List.mem_cons_of_mem _ hz))
        have i2 : (a * b).natAbs ≤ 2 ^ B1 * 2 ^ B2 := by
          rw [Int.natAbs_mul]
          exact Nat.mul_le_mul (Nat.le_of_lt (h1 a (List.mem_cons_self ..))) (Nat.le_of_lt (h2 b (List.mem_cons_self ..)))
        rw [e, List.length_cons, Nat.add_mul, Nat.one_mul]
        have := Int.natAbs_add_le (a * b) (dotI xs ys)
        omega
  intro n hn h7
  have h3 := key xs ys h1 h2
  have h4 : xs.length * (2 ^ B1 * 2 ^ B2) ≤ 7 * (2 ^ B1 * 2 ^ B2) := Nat.mul_le_mul_right _ (by omega)
  have h5 : 2 ^ (B1 + B2 + 3) = 8 * (2 ^ B1 * 2 ^ B2) := by rw [Nat.pow_add, Nat.pow_add, Nat.mul_comm]
  have h6 : 0 < 2 ^ B1 * 2 ^ B2 := Nat.mul_pos (Nat.two_pow_pos _) (Nat.two_pow_pos _)
  omega
theorem mul_grid {K : PySem.W.Frag} {C : Addr} {H : Hp} {u v : V} {m1 m2 : List (List Int)} {w1 w2 B1 B2 : Nat} {Q : VK} (G1 : IsGrid K C H u m1 w1) (G2 : IsGrid K C H v m2 w2) (e : w1 = m2.length) (l1 : m1.length ≤ 1000) (l2 : m2.length ≤ 1000) (l3 : w2 ≤ 1000) (b1 : ∀ r ∈ m1, Bits B1 r) (b2 : ∀ r ∈ m2, Bits B2 r) (hB : B1 + B2 ≤ 134217728)
    (q : ∀ g H', Same H H' → IsGrid K C H' g (mulM m1 m2 w2) w2 → Q g H') : rOwnBin C (sp_Grid_mul K C) L2.E0 u v H Q := by
  obtain ⟨⟨p1, d1, t1, rfl, h1, _⟩, _⟩ := id G1
  obtain ⟨⟨p2, d2, t2, rfl, h2, _⟩, _⟩ := id G2
  exact ⟨p1, p2, d1, d2, _, _, rfl, rfl, h1, h2, _, m1, w1, _, m2, w2, B1, B2, rfl, G1, G2, e, l1, l2, l3, b1, b2, hB, q⟩
/-! ### orthogonal -/
theorem mul_bits5 {M L : List (List Int)} {w B1 B2 n : Nat} (hM : ∀ r ∈ M, Bits B1 r) (lM : ∀ r ∈ M, r.length ≤ 7) (hL : ∀ r ∈ L, Bits B2 r) (rL : ∀ r ∈ L, r.length = w) : ∀ r ∈ mulM M L w, Bits (B1 + B2 + 3) r := fun r hr z hz => by
  obtain ⟨u, hu, rfl⟩ := List.mem_map.mp hr
  obtain ⟨o, ho, rfl⟩ := List.mem_map.mp hz
  exact dot_bits5 (hM u hu) (transp_bits rL hL o ho) 7 (lM u hu) (Nat.le_refl _)
theorem flat_len2 {m : List (List Int)} {w : Nat} (h : ∀ r ∈ m, r.length = w) : m.flatten.length = m.length * w := by
  induction m with
  | nil => simp
  | cons r m ih =>
    rw [List.flatten_cons, List.length_append, h r (List.mem_cons_self ..), ih fun q hq => h q (List.mem_cons_of_mem _ hq), List.length_cons, Nat.add_mul, Nat.one_mul, Nat.add_comm]
def orthM (L M1 M2 : List (List Int)) (n : Nat) : List (List Int) := mulM (mulM M1 L n) (transp M2 n) M2.length
def orthB (L M1 M2 : List (List Int)) (n : Nat) : Bool := !((orthM L M1 M2 n).flatten.any fun z => z != 0)
def sp_is_orthogonal (K : PySem.W.Frag) (C : Addr) : Sp := fun vs H Q _ => ∃ (g u v : V) (L M1 M2 : List (List Int)) (n : Nat), vs = [g, u, v] ∧ IsGrid K C H g L n ∧ IsGrid K C H u M1 n ∧ IsGrid K C H v M2 n ∧ L.length = n ∧ n ≤ 5 ∧ M1.length ≤ 7 ∧ M2.length ≤ 7 ∧ (∀ r ∈ L, Bits 10 r) ∧ (∀ r ∈ M1, Bits 100 r) ∧ (∀ r ∈ M2, Bits 100 r) ∧ ∀ H', Same H H' → Q (.bl (orthB L M1 M2 n)) H'
theorem ok_is_orthogonal (T : Top K mg) (hN : base.NoSeer) (hT : P.given.tree = none) : FnOk P w K mg base CX0 7 T.a_is_orthogonal T.d_is_orthogonal ["gram", "one", "two"] (sp_is_orthogonal K T.C_Grid) := by
  refine T.F_is_orthogonal.ok sc_is_orthogonal (fun vs H Q E h => ?_) (fun cdv A outer s H vs Q E hr h => ?_)
  · obtain ⟨g, u, v, L, M1, M2, n, rfl, _⟩ := h
    rfl
  · obtain ⟨g, u, v, L, M1, M2, n, rfl, G, G1, G2, lL, hn, h1, h2, bL, b1, b2, q⟩ := h
    have rL := G.2
    have r1 := G1.2
    have r2 := G2.2
    refine ⟨_, (pss_cons (ps_set (i := 3) sc_is_orthogonal.nd rfl (by first | exact .inl rfl | exact .inr rfl) (pe_op ((op_ownBin (op := .Mult) (E := L2.E0) T.sf_Grid T.m_Grid_mul.at_ T.m_Grid_mul.fn (ok_Grid_mul T hN hT) (hr.mono (by decide)) T.b_Grid_mul pass0)) (pe_op ((op_ownBin (op := .Mult) (E := L2.E0) T.sf_Grid T.m_Grid_mul.at_ T.m_Grid_mul.fn (ok_Grid_mul T hN hT) (hr.mono (by decide)) T.b_Grid_mul pass0)) (pv 1) (pv 0)) (pe_mt0 (met_Grid_transposed T hN hT) hr (by decide) (pv 2))))
      (pss_one (ps_ret (pe_not (pe_callB (anyLK K rfl rfl) (by rfl) T.z_any (by decide +kernel) (pa_cons (pe_lc2 (own := [("row", 4), ("item", 5)]) (vs1 := [5]) (g := (gName 4)) (g1 := (gName 5)) (by rfl) sc_is_orthogonal.nd (piT K rfl (fldK K rfl (pv 3) rfl)) (by show BlkOk ["gram", "one", "two", "products", "row", "item"] (defScope s_is_orthogonal) _ _; exact blkOk_by (by decide +kernel)) (by decide) (fun _ _ _ _ _ => (pg_name (i := 4) sc_is_orthogonal.nd rfl (by first | exact .inl rfl | exact .inr rfl))) (fun _ _ _ _ _ => pts_nil) (fun _ _ _ _ _ => (piT K rfl (pv 4))) (fun _ _ _ _ _ => (pg_name (i := 5) sc_is_orthogonal.nd rfl (by first | exact .inl rfl | exact .inr rfl))) (fun _ _ _ _ _ => pts_nil) (fun _ _ _ _ _ => (pv 5))) pa_nil)))))), ?_⟩
    refine ⟨_, rfl, _, rfl, ?_⟩
    refine mul_grid G1 G lL.symm (by omega) (by omega) (by omega) b1 bL (by decide) fun g3 H3 s3 G3 => ?_
    have G23 := IsGrid.same s3 G2
    obtain ⟨⟨pv, dv, tv, rfl, hov, htv⟩, _⟩ := id G23
    refine ⟨_, rfl, pv, dv, _, rfl, hov, m_transposed _ _, .ref pv, M2, n, rfl, G23, by omega, by omega, fun g4 H4 s4 G4 => ?_⟩
    have b3 := mul_bits5 (n := n) b1 (fun r hr => by rw [r1 r hr]; omega) bL rL
    refine mul_grid (IsGrid.same s4 G3) G4 (by rw [transp_len]) (by rw [mulM_len]; omega) (by rw [transp_len]; omega) (by omega) b3 (transp_bits r2 b2) (by decide) fun g5 H5 s5 G5 => ?_
    obtain ⟨⟨p5, d5, t5, rfl, ho5, ht5⟩, hr5⟩ := id G5
    obtain ⟨a5, w5, rfl, ha5, hp5⟩ := id ht5
    have lo : (orthM L M1 M2 n).flatten.length ≤ 1000 := by
      unfold orthM
      rw [flat_len2 mulM_row, mulM_len, mulM_len]
      have := Nat.mul_le_mul h1 h2
      omega
    refine ⟨_, rfl, p5, T.C_Grid, d5, _, _, rfl, ho5, T.cl_Grid, T.n_rows, flds_rows _ _, a5, rfl, ⟨_, ha5⟩, fun D hD => ?_⟩
    refine lc2_rows (j := 4) (j1 := 5) (vs := [4, 5]) (vs1 := [5]) (te := tVar 5) (f := fun z => z) ha5 hD hp5 lo ?_ ?_ ?_ ?_ ?_
    · intro _; rfl
    · intro _ _; rfl
    · intro _; rfl
    · exact fun z x H Ko k => ⟨_, rfl, k⟩
    intro H6 s6 eD
    rw [List.map_id'] at eD
    refine ⟨D, (orthM L M1 M2 n).flatten, rfl, .inl (.inl eD), _, rfl, ?_⟩
    exact q _ (s3.trans (s4.trans (s5.trans s6)))
theorem cal_is_orthogonal (T : Top K mg) (hN : base.NoSeer) (hT : P.given.tree = none) : Cal P w K mg base 7 "is_orthogonal" (sp_is_orthogonal K T.C_Grid) [] := ⟨⟨_, _, _, [], ok_is_orthogonal T hN hT, T.g_is_orthogonal, T.F_is_orthogonal.kp, T.b_is_orthogonal, .nil⟩⟩

end
end K39
namespace K39
open PySem PySem.Spec PyProof.Rows L2 Gm
open C8 (Cal Met Mak pe_c pe_mt pe_mt0 pe_mk)
section
variable {P : Program} {w : World} {K : PySem.W.Frag} {mg : Str → Option Value} {base : Heap}
/-! ### a parting -/
theorem lc2_gen2 {J : It} {n : Nat} {G : Hp → Prop} {Y : Nat → Hp → V → Hp → Prop} (w : Walk J n G Y) {g g1 : TG} {wi1 : TI} {te : TE} {vs vs1 : List Nat} {σ : L2.St} {H1 : Hp} {D : Addr} {Qd : Hp → Prop}
    (Pv : Nat → Hp → Prop) (h0 : Pv 0 (upd H1 D (.lst []))) (hG : ∀ i H, i ≤ n → Pv i H → G H)
    (gm : ∀ x σ1 H (Q Q' : L2.St → Hp → Prop), (∀ σ2 H2, Q σ2 H2 → Q' σ2 H2) → g x σ1 H Q → g x σ1 H Q')
    (gm1 : ∀ x σ1 H (Q Q' : L2.St → Hp → Prop), (∀ σ2 H2, Q σ2 H2 → Q' σ2 H2) → g1 x σ1 H Q → g1 x σ1 H Q')
    (step : ∀ (i : Nat) (x : V) (H H' : Hp) (R : L2.St → It → Hp → Prop), i < n → Pv i H → Y i H x H' →
      (∀ (σ2 : L2.St) (J1 : It) (H4 : Hp) (n1 : Nat) (G1 : Hp → Prop) (Y1 : Nat → Hp → V → Hp → Prop) (Pj : Nat → Hp → Prop), Walk J1 n1 G1 Y1 → Pj 0 H4 → (∀ j H, j ≤ n1 → Pj j H → G1 H) → (∀ H, Pj n1 H → Pv (i + 1) H) →
        (∀ (j : Nat) (y : V) (H5 H5' : Hp) (Ko : VK), j < n1 → Pj j H5 → Y1 j H5 y H5' → (∀ z H7, (∃ acc, H7 D = some (.lst acc) ∧ acc.length < sizeLine ∧ Pj (j + 1) (upd H7 D (.lst (acc ++ [z])))) → Ko z H7) → g1 y (wipe σ2 vs1) H5' fun σ3 H6 => wipe σ3 vs1 = wipe σ2 vs1 ∧ te σ3 H6 Ko) → R σ2 J1 H4) →
      g x (wipe σ vs) H' fun σ2 H2 => wipe σ2 vs = wipe σ vs ∧ wi1 σ2 H2 (R σ2))
    (done : ∀ H, Pv n H → Qd H) :
    ∃ W : Nat → Nat → Hp → Prop, (∃ m, W 0 m (upd H1 D (.lst []))) ∧ ∀ i m H, W i m H →
  (J.stop i H ∧ Qd H) ∨ (J.go i H ∧ ∃ Nx : Hp → Prop, (∀ H', Nx H' → ∃ m', m' < m ∧ W (i + 1) m' H') ∧ ∀ x H', J.yld i H x H' → g x (wipe σ vs) H' fun σ2 H2 => wipe σ2 vs = wipe σ vs ∧ tYes σ2 H2 fun b H3 =>
    if b = true then wi1 σ2 H3 fun J1 H4 => ∃ W1 : Nat → Nat → Hp → Prop, (∃ m, W1 0 m H4) ∧ ∀ j2 k H, W1 j2 k H →
      (J1.stop j2 H ∧ Nx H) ∨ (J1.go j2 H ∧ ∃ Nx1 : Hp → Prop, (∀ H', Nx1 H' → ∃ k', k' < k ∧ W1 (j2 + 1) k' H') ∧ ∀ x H', J1.yld j2 H x H' → g1 x (wipe σ2 vs1) H' fun σ3 H5 => wipe σ3 vs1 = wipe σ2 vs1 ∧ tYes σ3 H5 fun b H6 =>
        if b = true then te σ3 H6 fun y H7 => ∃ acc, H7 D = some (.lst acc) ∧ acc.length < sizeLine ∧ Nx1 (upd H7 D (.lst (acc ++ [y]))) else Nx1 H6)
    else Nx H3) := by
  refine ⟨fun i k H => k = n - i ∧ i ≤ n ∧ Pv i H, ⟨n, by simp, Nat.zero_le _, h0⟩, ?_⟩
  rintro i k H ⟨rfl, hi, pv⟩
  by_cases hlt : i < n
  · refine .inr ⟨w.goes i H hlt (hG i H hi pv), Pv (i + 1), fun H' p' => ⟨n - (i + 1), by omega, rfl, hlt, p'⟩, fun x H' y => ?_⟩
    have yy := w.yields i H x H' hlt (hG i H hi pv) y
    refine gm _ _ _ _ _ (fun σ2 H2 q => ⟨q.1, tyes_of q.2⟩) (step i x H H' (fun σ2 J1 H4 => ∃ W1 : Nat → Nat → Hp → Prop, (∃ m, W1 0 m H4) ∧ ∀ j2 k H, W1 j2 k H →
      (J1.stop j2 H ∧ Pv (i + 1) H) ∨ (J1.go j2 H ∧ ∃ Nx1 : Hp → Prop, (∀ H', Nx1 H' → ∃ k', k' < k ∧ W1 (j2 + 1) k' H') ∧ ∀ x H', J1.yld j2 H x H' → g1 x (wipe σ2 vs1) H' fun σ3 H5 => wipe σ3 vs1 = wipe σ2 vs1 ∧ tYes σ3 H5 fun b H6 =>
        if b = true then te σ3 H6 fun y H7 => ∃ acc, H7 D = some (.lst acc) ∧ acc.length < sizeLine ∧ Nx1 (upd H7 D (.lst (acc ++ [y]))) else Nx1 H6)) hlt pv yy fun σ2 J1 H4 n1 G1 Y1 Pj w1 p0 hG1 pe st => ?_)
    refine ⟨fun j k H => k = n1 - j ∧ j ≤ n1 ∧ Pj j H, ⟨n1, by simp, Nat.zero_le _, p0⟩, ?_⟩
    rintro j k H5 ⟨rfl, hj, pj⟩
    by_cases hlt1 : j < n1
    · refine .inr ⟨w1.goes j H5 hlt1 (hG1 j H5 hj pj), Pj (j + 1), fun H' p' => ⟨n1 - (j + 1), by omega, rfl, hlt1, p'⟩, fun z H6 y1 => ?_⟩
      have yy1 := w1.yields j H5 z H6 hlt1 (hG1 j H5 hj pj) y1
      exact gm1 _ _ _ _ _ (fun σ3 H7 q => ⟨q.1, tyes_of q.2⟩) (st j z H5 H6 _ hlt1 pj yy1 fun _ _ h => h)
    · have e : j = n1 := by omega
      subst e
      exact .inl ⟨w1.stops H5 (hG1 j H5 hj pj), pe H5 pj⟩
  · have e : i = n := by omega
    subst e
    exact .inl ⟨w.stops H (hG i H hi pv), done H pv⟩
theorem make_grid2 {K : PySem.W.Frag} {C x dx : Addr} {H1 : Hp} {v : V} {m : List (List Int)} {w : Nat} {Q : VK} {E : XK} (nx : H1 x = none) (nd : H1 dx = none) (hm : IRows K H1 v m) (hl : m.length ≤ 1000) (hw : w ≤ 1000) (hrw : ∀ r ∈ m, r.length = w) (q : ∀ H', Same H1 H' → IsGrid K C H' (.ref x) m w → Q .non H') :
    sp_Grid_init K C [.ref x, v, .int w] (upd (upd H1 dx (.own x)) x (.ins C dx [])) Q E := by
  have s0 : Same H1 (upd (upd H1 dx (.own x)) x (.ins C dx [])) := fun b o e => by
    rw [upd_ne (ne_of_none e nx), upd_ne (ne_of_none e nd)]
    exact e
  refine ⟨x, dx, v, m, w, rfl, upd_same, hm.same s0, hl, hw, hrw, fun t H' o ho ht => ?_⟩
  exact q _ (fun b u e => o _ _ (ne_of_none e nx) (s0 _ _ e)) ⟨⟨x, dx, t, rfl, ho, ht⟩, hrw⟩
abbrev PItem := Option (List (List Int) × Nat)
def okI (K : PySem.W.Frag) (C : Addr) (H : Hp) (v : V) : PItem → Prop
  | some g => IsGrid K C H v g.1 g.2
  | none => ∃ a xs, v = .ref a ∧ SqT K H a xs
def goodI (n : Nat) : PItem → Bool
  | some g => decide (0 < g.1.length) && decide (g.2 = n)
  | none => false
theorem okI.same {K : PySem.W.Frag} {C : Addr} {H H' : Hp} (s : Same H H') : ∀ {v : V} {g : PItem}, okI K C H v g → okI K C H' v g
  | _, some _, h => IsGrid.same s h
  | _, none, ⟨a, xs, e, h⟩ => ⟨a, xs, e, Same.seqT s h⟩
def pairsL (Ms : List (List (List Int))) : List (List (List Int) × List (List Int)) := (List.range Ms.length).flatMap fun k => (Ms.take k).map fun M => (Ms.getD k [], M)
def partB (L : List (List Int)) (Ms : List (List (List Int))) (n : Nat) : Bool := decide (Ms.flatten.length = n ∧ (detL n Ms.flatten).natAbs = 1) && (pairsL Ms).all fun p => orthB L p.1 p.2 n
def NoTup (K : PySem.W.Frag) (H : Hp) (v : V) : Prop := ∃ t, TyX K H v t ∧ PySem.W.kitOne K t (.type "tuple") = some false
def sp_is_parting (K : PySem.W.Frag) (CG CL : Addr) : Sp := fun vs H Q _ => ∃ (l g : V) (L : List (List Int)) (n : Nat), vs = [l, g] ∧ IsLat K CG CL H l L n ∧
  ((NoTup K H g ∧ Q (.bl false) H) ∨ ∃ (a : Addr) (ws : List V) (gs : List PItem), g = .ref a ∧ SqT K H a ws ∧ Paired (okI K CG H) ws gs ∧ gs.length ≤ 5 ∧
    ((gs.all (goodI n) = false ∧ ∀ H', Same H H' → Q (.bl false) H') ∨
     ∃ Ms : List (List (List Int)), gs = Ms.map (fun M => some (M, n)) ∧ (∀ M ∈ Ms, 0 < M.length ∧ M.length ≤ 7 ∧ ∀ r ∈ M, Bits 100 r) ∧ ∀ H', Same H H' → Q (.bl (partB L Ms n)) H'))
theorem ok_is_parting (T : Top K mg) (hN : base.NoSeer) (hT : P.given.tree = none) : FnOk P w K mg base CX0 47 T.a_is_parting T.d_is_parting ["lattice", "grids"] (sp_is_parting K T.C_Grid T.C_Lattice) := by
  refine T.F_is_parting.ok sc_is_parting (fun vs H Q E h => ?_) (fun cdv A outer s H vs Q E hr h => ?_)
  · obtain ⟨l, g, L, n, rfl, _⟩ := h
    rfl
  · obtain ⟨l, g, L, n, rfl, hl, hh⟩ := h
    obtain ⟨pl, dl, gl, rfl, hol, Gl⟩ := id hl.obj
    have n4 := hl.gm.n4
    have hlat := hl
    refine ⟨_, (pss_cons (ps_set (i := 2) sc_is_parting.nd rfl (by first | exact .inl rfl | exact .inr rfl) (pe_mt0 (met_Lattice_rank T hN hT) hr (by decide) (pv 0)))
      (pss_cons (ps_if (pt_not (pt_val (pe_callB (isiK K rfl) (by rfl) T.z_isinstance (by decide +kernel) (pa_cons (pv 1) (pa_cons (pe_bltn (v := .ty "tuple") (by rfl) T.z_tuple (by decide +kernel) rfl) pa_nil)))))
      (pss_one (ps_ret pe_bl))
      pss_nil)
      (pss_cons (ps_if (pt_not (pt_val (pe_callB (allK K rfl rfl) (by rfl) T.z_all (by decide +kernel) (pa_cons (pe_lc (own := [("one", 4)]) (g := (gName 4)) (by rfl) sc_is_parting.nd (piT K rfl (pv 1)) ((by show BlkOk ["lattice", "grids", "n", "pairs", "one", "row", "k", "two"] (defScope s_is_parting) _ _; exact blkOk_by (by decide +kernel))) (fun _ _ _ _ _ => (pg_name (i := 4) sc_is_parting.nd rfl (by first | exact .inl rfl | exact .inr rfl))) (fun _ _ _ _ _ => pts_nil) (fun _ _ _ _ _ => (pe_and (pe_callB (isiK K rfl) (by rfl) T.z_isinstance (by decide +kernel) (pa_cons (pv 4) (pa_cons (pe_glob (by rfl) T.g_Grid (show RelV (.ref T.C_Grid) _ from rfl)) pa_nil))) (pe_and (pe_cmpR op_gt (pe_callB (lenS K rfl) (by rfl) T.z_len (by decide +kernel) (pa_cons (fldK K rfl (pv 4) rfl) pa_nil)) pe_int (nomark _)) (pe_one (pe_cmpR op_eq (fldK K rfl (pv 4) rfl) (pv 2) (nomark _))))))) pa_nil))))
      (pss_one (ps_ret pe_bl))
      pss_nil)
      (pss_cons (ps_if (pt_not (pt_val (pe_mt0 (met_Grid_is_unimodular T hN hT) hr (by decide) (pe_mk (mak_Grid T hN hT) hr (by decide) (by rfl) (pa_cons (pe_lc2 (own := [("one", 4), ("row", 5)]) (vs1 := [5]) (g := (gName 4)) (g1 := (gName 5)) (by rfl) sc_is_parting.nd (piT K rfl (pv 1)) (by show BlkOk ["lattice", "grids", "n", "pairs", "one", "row", "k", "two"] (defScope s_is_parting) _ _; exact blkOk_by (by decide +kernel)) (by decide) (fun _ _ _ _ _ => (pg_name (i := 4) sc_is_parting.nd rfl (by first | exact .inl rfl | exact .inr rfl))) (fun _ _ _ _ _ => pts_nil) (fun _ _ _ _ _ => (piT K rfl (fldK K rfl (pv 4) rfl))) (fun _ _ _ _ _ => (pg_name (i := 5) sc_is_parting.nd rfl (by first | exact .inl rfl | exact .inr rfl))) (fun _ _ _ _ _ => pts_nil) (fun _ _ _ _ _ => (pv 5))) (pa_cons (pv 2) pa_nil))))))
      (pss_one (ps_ret pe_bl))
      pss_nil)
      (pss_cons (ps_setLc2 (i := 3) (own := [("k", 6), ("one", 4), ("two", 7)]) (vs1 := [7]) (g := (gTup K 2 (gCons (gName 6) (gCons (gName 4) gNil)))) (g1 := (gName 7)) (by rfl) sc_is_parting.nd rfl rfl (sw_true rfl rfl rfl (by decide +kernel)) (piEnum K rfl (by rfl) T.z_enumerate (pa_cons (pv 1) pa_nil)) (by show BlkOk ["lattice", "grids", "n", "pairs", "one", "row", "k", "two"] (defScope s_is_parting) _ _; exact blkOk_by (by decide +kernel)) (by decide) (fun _ _ _ _ _ => (pg_tup rfl (pgs_cons (pg_name (i := 6) sc_is_parting.nd rfl (by first | exact .inl rfl | exact .inr rfl)) (pgs_cons (pg_name (i := 4) sc_is_parting.nd rfl (by first | exact .inl rfl | exact .inr rfl)) pgs_nil)))) (fun _ _ _ _ _ => pts_nil) (fun _ _ _ _ _ => (piT K rfl (pe_slice (slTK K rfl) (pv 1) po_none (po_some (pv 6))))) (fun _ _ _ _ _ => (pg_name (i := 7) sc_is_parting.nd rfl (by first | exact .inl rfl | exact .inr rfl))) (fun _ _ _ _ _ => pts_nil) (fun _ _ _ _ _ => (pe_tup (pa_cons (pv 4) (pa_cons (pv 7) pa_nil)))))
      (pss_one (ps_ret (pe_callB (allK K rfl rfl) (by rfl) T.z_all (by decide +kernel) (pa_cons (pe_lc (own := [("one", 4), ("two", 7)]) (g := (gTup K 2 (gCons (gName 4) (gCons (gName 7) gNil)))) (by rfl) sc_is_parting.nd (piL K rfl (pv 3)) ((by show BlkOk ["lattice", "grids", "n", "pairs", "one", "row", "k", "two"] (defScope s_is_parting) _ _; exact blkOk_by (by decide +kernel))) (fun _ _ _ _ _ => (pg_tup rfl (pgs_cons (pg_name (i := 4) sc_is_parting.nd rfl (by first | exact .inl rfl | exact .inr rfl)) (pgs_cons (pg_name (i := 7) sc_is_parting.nd rfl (by first | exact .inl rfl | exact .inr rfl)) pgs_nil)))) (fun _ _ _ _ _ => pts_nil) (fun _ _ _ _ _ => (pe_c (cal_is_orthogonal T hN hT) hr (by decide) (by rfl) (pa_cons (fldK K rfl (pv 0) rfl) (pa_cons (pv 4) (pa_cons (pv 7) pa_nil)))))) pa_nil))))))))), ?_⟩
    refine ⟨_, rfl, pl, dl, _, rfl, hol, l_rank _, _, L, n, rfl, hl, ?_⟩
    rcases hh with ⟨⟨ty, h1, h2⟩, q⟩ | ⟨a, ws, gs, rfl, ha, hp, l5, hq⟩
    · refine ⟨_, rfl, g, .ty "tuple", _, _, false, rfl, .ty _, h1, h2, false, rfl, ?_⟩
      refine iteT ?_
      exact q
    · refine ⟨_, rfl, .ref a, .ty "tuple", _, _, true, rfl, .ty _, row_ty ha, kit_ty (by decide +kernel), true, rfl, ?_⟩
      refine iteF ?_
      have lws := Paired.length hp
      have hgs : ∀ {i : Nat} {x : V}, ws[i]? = some x → ∃ g, gs[i]? = some g ∧ okI K T.C_Grid H x g := fun e => by
        obtain ⟨g, eg, hg⟩ := Paired.getR hp e
        exact ⟨g, eg, hg⟩
      refine ⟨_, rfl, a, rfl, ⟨_, ha⟩, fun D hD => ?_⟩
      refine lc_all (walk_tup (xs := ws)) hD (by omega) (fun H1 s1 => Same.seqT s1 ha) (fun i v _ => v = V.bl (goodI n (gs.getD i none))) (fun _ _ _ _ _ _ _ h => h) ?_ gm_name ?_
      · rintro i x H1 H1' acc Ko hi s1 eD ⟨rfl, ex⟩ kk
        obtain ⟨g, eg, hg⟩ := hgs ex
        have egd : gs.getD i none = g := by rw [List.getD_eq_getElem?_getD, eg]; rfl
        rw [egd] at kk
        refine ⟨rfl, ?_⟩
        cases g with
        | none =>
          obtain ⟨b, xs, rfl, hb⟩ := hg
          refine ⟨_, rfl, .ref b, .ref T.C_Grid, _, _, false, rfl, .own _, row_ty (Same.seqT s1 hb), kit_own T.ic_Grid T.ty_Grid tup_not, false, rfl, ?_⟩
          refine iteF ?_
          exact kk _ _ (Same.refl _) rfl
        | some g =>
          obtain ⟨M, w⟩ := g
          obtain ⟨⟨px, dx, tx, rfl, hox, htx⟩, hrx⟩ := IsGrid.same s1 hg
          obtain ⟨at', wx, rfl, hax, hpx⟩ := htx
          have lwx : wx.length = M.length := Paired.length hpx
          refine ⟨_, rfl, .ref px, .ref T.C_Grid, _, _, true, rfl, .own _, .base (.ins hox T.cl_Grid T.kc_Grid T.kg_Grid T.kt_Grid T.km_Grid), kit_self, true, rfl, ?_⟩
          refine iteT ?_
          refine ⟨_, rfl, px, T.C_Grid, dx, _, _, rfl, hox, T.cl_Grid, T.n_rows, flds_rows _ _, at', wx, rfl, .inr hax, _, _, rfl, rfl, _, rfl, ?_⟩
          by_cases h0 : 0 < M.length
          · rw [decide_eq_true (show (0 : Int) < (wx.length : Nat) by omega)]
            refine iteT ?_
            refine ⟨_, rfl, px, T.C_Grid, dx, _, _, rfl, hox, T.cl_Grid, T.n_width, flds_width _ _, _, rfl, rfl, ?_⟩
            refine kk _ _ (Same.refl _) ?_
            show V.bl (decide (V.int (w : Int) = V.int (n : Int))) = V.bl (decide (0 < M.length) && decide (w = n))
            rw [decide_eq_true h0, Bool.true_and]
            congr 1
            by_cases e : w = n
            · rw [decide_eq_true e, decide_eq_true (by rw [e])]
            · rw [decide_eq_false e, decide_eq_false fun z => e (by have := V.int.inj z; omega)]
          · rw [decide_eq_false (show ¬ (0 : Int) < (wx.length : Nat) by omega)]
            refine iteF ?_
            refine kk _ _ (Same.refl _) ?_
            show V.bl false = V.bl (decide (0 < M.length) && decide (w = n))
            rw [decide_eq_false h0, Bool.false_and]
      · intro H1 lb s1 eD hpl
        have elb := bools_list hpl
        have eall : ((List.range ws.length).map fun i => goodI n (gs.getD i none)) = gs.map (goodI n) := by
          apply List.ext_getElem?
          intro i
          rw [List.getElem?_map, List.getElem?_map]
          by_cases hi : i < ws.length
          · rw [List.getElem?_range hi]
            have hi2 : i < gs.length := by omega
            rw [List.getElem?_eq_getElem hi2]
            show some (goodI n (gs.getD i none)) = some (goodI n gs[i])
            rw [List.getD_eq_getElem?_getD, List.getElem?_eq_getElem hi2]
            rfl
          · rw [List.getElem?_eq_none (by rw [List.length_range]; omega), List.getElem?_eq_none (by omega)]
            rfl
        rw [eall] at elb
        subst elb
        refine ⟨D, _, rfl, .inl (.inl eD), ?_⟩
        have hid : (gs.map (goodI n)).all id = gs.all (goodI n) := by
          rw [List.all_map]
          rfl
        rw [hid]
        rcases hq with ⟨hbad, q⟩ | ⟨Ms, rfl, hMs, q⟩
        · rw [hbad]
          refine ⟨_, rfl, ?_⟩
          refine iteT ?_
          exact q H1 s1
        · have hgood : (Ms.map fun M => (some (M, n) : PItem)).all (goodI n) = true := by
            rw [List.all_eq_true]
            intro g hg
            obtain ⟨M, hM, rfl⟩ := List.mem_map.mp hg
            show (decide (0 < M.length) && decide (n = n)) = true
            rw [decide_eq_true (hMs M hM).1, decide_eq_true rfl]
            rfl
          rw [hgood]
          refine ⟨_, rfl, ?_⟩
          refine iteF ?_
          have hms : ∀ {i : Nat} {x : V}, ws[i]? = some x → ∃ M, Ms[i]? = some M ∧ IsGrid K T.C_Grid H1 x M n := fun {i x} e => by
            obtain ⟨g, eg, hg⟩ := hgs e
            rw [List.getElem?_map] at eg
            cases e2 : Ms[i]? with
            | none => rw [e2] at eg; cases eg
            | some M =>
              rw [e2] at eg
              have := Option.some.inj eg
              subst this
              exact ⟨M, rfl, IsGrid.same s1 hg⟩
          have lM : Ms.length = ws.length := by rw [lws, List.length_map]
          refine ⟨_, rfl, a, rfl, ⟨_, Same.seqT s1 ha⟩, fun D2 hD2 => ?_⟩
          have lfl : ∀ i, ((Ms.take i).flatten).length ≤ 7 * Ms.length := fun i => by
            have key : ∀ (l : List (List (List Int))), (∀ M ∈ l, M.length ≤ 7) → l.flatten.length ≤ 7 * l.length := fun l => by
              induction l with
              | nil => intro _; exact Nat.zero_le _
              | cons M l ih =>
                intro h
                have h1 := ih fun q hq => h q (List.mem_cons_of_mem _ hq)
                have h2 := h M (List.mem_cons_self ..)
                rw [List.flatten_cons, List.length_append, List.length_cons]
                omega
            have h1 := key (Ms.take i) fun M hM => (hMs M (List.mem_of_mem_take hM)).2.1
            have h2 : (Ms.take i).length ≤ Ms.length := by rw [List.length_take]; omega
            omega
          have l5' : Ms.length ≤ 5 := by rw [List.length_map] at l5; exact l5
          refine lc2_gen2 (walk_tup (xs := ws)) (fun i H2 => Same H1 H2 ∧ ∃ l, H2 D2 = some (.lst l) ∧ Paired (TRow K H2) l ((Ms.take i).flatten)) ⟨same_upd hD2, [], upd_same, by rw [List.take_zero]; exact .nil⟩ (fun i H2 _ ⟨s2, _⟩ => Same.seqT (s1.trans s2) ha) gm_name gm_name ?_ ?_
          · rintro i x H2 H2' R hi ⟨s2, l, eD2, hl⟩ ⟨rfl, ex⟩ hR
            obtain ⟨M, eM, hM⟩ := hms ex
            obtain ⟨⟨px, dx, tx, rfl, hox, htx⟩, hrx⟩ := id hM
            obtain ⟨ax, wx, rfl, hax, hpx⟩ := id htx
            have egM : Ms.getD i [] = M := by rw [List.getD_eq_getElem?_getD, eM]; rfl
            have etk : (Ms.take (i + 1)).flatten = (Ms.take i).flatten ++ M := by rw [List.take_add_one, eM, List.flatten_append]; simp
            have lwx := Paired.length hpx
            refine ⟨rfl, ?_⟩
            refine ⟨_, rfl, px, T.C_Grid, dx, _, _, rfl, s2 _ _ hox, T.cl_Grid, T.n_rows, flds_rows _ _, ax, rfl, ⟨_, Same.seqT s2 hax⟩, ?_⟩
            refine hR _ _ _ _ _ _ (fun j H2 => Same H1 H2 ∧ ∃ l, H2 D2 = some (.lst l) ∧ Paired (TRow K H2) l ((Ms.take i).flatten ++ (Ms.getD i []).take j)) (walk_tup (xs := wx)) ⟨s2, l, eD2, by rw [List.take_zero, List.append_nil]; exact hl⟩ (fun j H3 _ ⟨s3, _⟩ => ?_) (fun H3 ⟨s3, l3, e3, h3⟩ => ⟨s3, l3, e3, ?_⟩) ?_
            · exact Same.seqT s3 hax
            · rw [egM, show M.take wx.length = M from List.take_of_length_le (by omega)] at h3
              rw [etk]
              exact h3
            · rintro j y H5 H5' Ko hj ⟨s5, l5, e5, h5⟩ ⟨rfl, ey⟩ kk
              obtain ⟨r, er, hr⟩ := Paired.getR hpx ey
              refine ⟨rfl, ?_⟩
              have l5len := Paired.length h5
              have hfi := lfl i
              rw [List.length_append, List.length_take] at l5len
              have hM7 := (hMs M (List.mem_of_getElem? eM)).2.1
              rw [egM] at l5len
              refine ⟨_, rfl, kk _ _ ⟨l5, e5, small1000 (by omega), fun b o h => ?_, l5 ++ [y], upd_same, ?_⟩⟩
              · rw [upd_ne (ne_of_none h hD2)]
                exact s5 _ _ h
              · rw [egM, List.take_add_one, er, ← List.append_assoc]
                rw [egM] at h5
                exact Paired.snoc (L2.Paired.mapP h5 fun _ _ => TRow.off e5 Off.upd) (TRow.off e5 Off.upd (TRow.same s5 hr))
          · rintro H2 ⟨s2, l, eD2, hl⟩
            rw [List.take_of_length_le (by omega)] at hl
            refine ⟨_, rfl, ?_⟩
            intro y yd ny nyd ney
            have rW : ∀ r ∈ Ms.flatten, r.length = n ∧ Bits 100 r := fun r hr => by
              obtain ⟨M, hM, hrM⟩ := List.mem_flatten.mp hr
              obtain ⟨i, ei⟩ := List.getElem?_of_mem hM
              have hi : i < ws.length := by
                have := (List.getElem?_eq_some_iff.mp ei).1
                omega
              obtain ⟨M', eM', hG⟩ := hms (List.getElem?_eq_getElem hi)
              have : M = M' := Option.some.inj (ei.symm.trans eM')
              subst this
              exact ⟨hG.2 r hrM, (hMs M hM).2.2 r hrM⟩
            have lW : Ms.flatten.length ≤ 35 := by
              have := lfl Ms.length
              rw [List.take_length] at this
              omega
            refine make_grid2 ny nyd ⟨D2, l, rfl, .inl (.inl (.inl eD2)), L2.Paired.mapP hl fun _ _ h => h.row⟩ (by omega) (by omega) (fun r hr => (rW r hr).1) fun H3 s3 G3 => ⟨rfl, ?_⟩
            obtain ⟨⟨_, d3, t3, e3, ho3, ht3⟩, _⟩ := id G3
            cases e3
            have fin : ∀ H4, Same H3 H4 → (decide (Ms.flatten.length = n ∧ (detL n Ms.flatten).natAbs = 1) = false) → Q (.bl false) H4 := fun H4 s4 e => by
              have e2 : partB L Ms n = false := by
                unfold partB
                rw [e]
                rfl
              have := q H4 (s1.trans (s2.trans (s3.trans s4)))
              rw [e2] at this
              exact this
            refine ⟨y, d3, _, rfl, ho3, m_is_unimodular _ _, .ref y, Ms.flatten, n, rfl, G3, ?_⟩
            by_cases hln : Ms.flatten.length = n
            · have sqW : Sq n 100 Ms.flatten := ⟨hln, fun r hr => (rW r hr).1, fun r hr => (rW r hr).2⟩
              refine .inr ⟨100, sqW, by omega, by decide, fun H4 s4 => ⟨_, rfl, ?_⟩⟩
              rw [bare_det n4 sqW.sz]
              by_cases hd : (detL n Ms.flatten).natAbs = 1
              · rw [decide_eq_true hd]
                refine iteF ?_
                have s14 := s2.trans (s3.trans s4)
                have nD3 : ∀ {b : Addr} {o : HO}, H1 b = some o → H4 b = some o := fun e => s14 _ _ e
                refine ⟨_, rfl, a, ws, rfl, .inr (Same.seqT (s1.trans s14) ha), fun J G W hG D3 hD3 => ?_⟩
                obtain ⟨pk, hpk⟩ : ∃ pk : Nat → List (List (List Int) × List (List Int)), pk = fun i => (List.range i).flatMap fun k => (Ms.take k).map fun M => (Ms.getD k [], M) := ⟨_, rfl⟩
                have pk0 : pk 0 = [] := by rw [hpk]; rfl
                have pks : ∀ i, pk (i + 1) = pk i ++ (Ms.take i).map fun M => (Ms.getD i [], M) := fun i => by
                  rw [hpk]
                  show (List.range (i + 1)).flatMap _ = _
                  rw [List.range_succ, List.flatMap_append]
                  simp
                have pkl : ∀ i, (pk i).length ≤ 5 * i := fun i => by
                  induction i with
                  | zero => rw [pk0]; exact Nat.zero_le _
                  | succ i ih =>
                    rw [pks, List.length_append, List.length_map, List.length_take]
                    omega
                obtain ⟨PR, hPR⟩ : ∃ PR : Hp → V → (List (List Int) × List (List Int)) → Prop, PR = fun H v p => ∃ t x y, v = .ref t ∧ t ≠ D3 ∧ SqT K H t [x, y] ∧ IsGrid K T.C_Grid H1 x p.1 n ∧ IsGrid K T.C_Grid H1 y p.2 n ∧ p.1 ∈ Ms ∧ p.2 ∈ Ms := ⟨_, rfl⟩
                have PRo : ∀ {H2 H5 : Hp} {acc : List V} {v : V} {p : List (List Int) × List (List Int)}, H2 D3 = some (.lst acc) → Off D3 H2 H5 → PR H2 v p → PR H5 v p := fun e o h => by
                  rw [hPR] at h ⊢
                  obtain ⟨t, x, y, h1, h2, h3, h4⟩ := h
                  exact ⟨t, x, y, h1, h2, sqT_off e o h3, h4⟩
                refine lc2_gen2 W (fun i H2 => Same H4 H2 ∧ ∃ l, H2 D3 = some (.lst l) ∧ Paired (PR H2) l (pk i)) ⟨same_upd hD3, [], upd_same, by rw [pk0]; exact .nil⟩ (fun i H2 _ ⟨s5, _⟩ => hG H2 fun b _ o => s5 b o) gm_pair gm_name ?_ ?_
                · rintro i x H2 H2' R hi ⟨s5, l, e3, hl⟩ ⟨U, x1, x2, rfl, nU, rfl, e1, e2⟩ hR
                  cases e1
                  obtain ⟨M, eM, hM⟩ := hms e2
                  have egM : Ms.getD i [] = M := by rw [List.getD_eq_getElem?_getD, eM]; rfl
                  have s6 := same_upd (o := .tup [V.int (i : Nat), x2]) nU
                  refine g_pair nU ⟨rfl, ?_⟩
                  refine ⟨_, rfl, _, rfl, (i : Int), rfl, ?_⟩
                  refine slA_take (Same.seqT (s1.trans (s14.trans (s5.trans s6))) ha) i fun p7 H7 s7 h7 => ?_
                  have s67 := s6.trans s7
                  have e37 := s67 _ _ e3
                  refine ⟨p7, rfl, ⟨_, h7⟩, ?_⟩
                  refine hR _ _ _ _ _ _ (fun j H8 => Off D3 H7 H8 ∧ ∃ l, H8 D3 = some (.lst l) ∧ Paired (PR H8) l (pk i ++ ((Ms.take i).take j).map fun M => (Ms.getD i [], M))) (walk_tup (xs := ws.take i)) ⟨Same.off (Same.refl _), l, e37, ?_⟩ (fun j H8 _ ⟨o8, _⟩ => sqT_off e37 o8 h7) (fun H8 ⟨o8, l8, e8, h8⟩ => ⟨Off.same hD3 (s5.trans s67) o8, l8, e8, ?_⟩) ?_
                  · rw [List.take_zero, List.map_nil, List.append_nil]
                    exact L2.Paired.mapP hl fun _ _ => PRo e3 (Same.off s67)
                  · rw [show (Ms.take i).take (ws.take i).length = Ms.take i from List.take_of_length_le (by rw [List.length_take, List.length_take]; omega)] at h8
                    rw [pks]
                    exact h8
                  · rintro j y H8 H8' Ko hj ⟨o8, l8, e8, h8⟩ ⟨rfl, ey⟩ kk
                    rw [List.length_take] at hj
                    have ey' : ws[j]? = some y := by
                      rw [List.getElem?_take, if_pos (by omega)] at ey
                      exact ey
                    obtain ⟨M2, eM2, hM2⟩ := hms ey'
                    have l8len := Paired.length h8
                    have pki := pkl i
                    rw [List.length_append, List.length_map, List.length_take, List.length_take] at l8len
                    refine ⟨rfl, ?_⟩
                    refine ⟨_, rfl, _, rfl, by show 2 ≤ sizeLine; decide, fun t nt => ?_⟩
                    have s9 := same_upd (o := .tup [x2, y]) nt
                    have e9 := s9 _ _ e8
                    have ht9 : SqT K (upd H8' t (.tup [x2, y])) t [x2, y] := .inl (.inl upd_same)
                    have htD : t ≠ D3 := fun e => by rw [e, e8] at nt; cases nt
                    generalize upd H8' t (.tup [x2, y]) = H9 at s9 e9 ht9 ⊢
                    refine kk _ _ ⟨l8, e9, small1000 (by omega), fun b o nb h => ?_, l8 ++ [.ref t], upd_same, ?_⟩
                    · rw [upd_ne nb]
                      exact s9 _ _ (o8 _ _ nb h)
                    · have emt : (Ms.take i)[j]? = some M2 := by rw [List.getElem?_take, if_pos (by omega)]; exact eM2
                      rw [List.take_add_one, emt, List.map_append, ← List.append_assoc]
                      refine Paired.snoc (L2.Paired.mapP h8 fun _ _ h => PRo e9 Off.upd (PRo e8 (Same.off s9) h)) ?_
                      rw [hPR]
                      exact ⟨t, x2, y, rfl, htD, sqT_off e9 Off.upd ht9, by rw [egM]; exact hM, hM2, by rw [egM]; exact List.mem_of_getElem? eM, List.mem_of_getElem? eM2⟩
                · rintro H5 ⟨s5, l, e3, hl⟩
                  have epk : pk ws.length = pairsL Ms := by rw [hpk, ← lM]; rfl
                  rw [epk] at hl
                  have lpl : l.length ≤ 1000 := by
                    have h1 := pkl ws.length
                    rw [epk, ← Paired.length hl] at h1
                    omega
                  refine ⟨_, rfl, D3, rfl, ⟨_, .inl (.inl e3)⟩, fun D5 hD5 => ?_⟩
                  have sH5 := s1.trans (s14.trans s5)
                  have hl5 := IsLat.same sH5 hlat
                  obtain ⟨pl', dl', gl', el', hol', Gl'⟩ := id hl5.obj
                  cases el'
                  refine lc_all (walk_list (xs := l)) hD5 lpl (fun H6 s6 => Same.seq s6 (.inl (.inl e3))) (fun i v _ => ∃ p, (pairsL Ms)[i]? = some p ∧ v = V.bl (orthB L p.1 p.2 n)) (fun _ _ _ _ _ _ _ h => h) ?_ gm_pair ?_
                  · rintro i x H6 H6' acc Ko hi s6 eD ⟨rfl, ex⟩ kk
                    obtain ⟨pp, epp, hpp⟩ := Paired.getR hl ex
                    rw [hPR] at hpp
                    obtain ⟨t, x1, x2, rfl, _, hst, hG1, hG2, m1, m2⟩ := hpp
                    have s16 := (s14.trans s5).trans s6
                    refine ⟨t, [x1, x2], rfl, Same.seqT s6 hst, rfl, x1, [x2], rfl, x2, [], rfl, rfl, rfl, ?_⟩
                    have hl6 := IsLat.same s6 hl5
                    obtain ⟨pl6, dl6, gl6, el6, hol6, Gl6⟩ := id hl6.obj
                    cases el6
                    refine ⟨_, rfl, pl, T.C_Lattice, dl6, _, _, rfl, hol6, T.cl_Lattice, T.n_gram, fldG_gram _, _, rfl, _, rfl, gl6, x1, x2, L, pp.1, pp.2, n, rfl, Gl6, IsGrid.same s16 hG1, IsGrid.same s16 hG2, hlat.gm.sq.len, by omega, (hMs _ m1).2.1, (hMs _ m2).2.1, hlat.gm.sq.bits, (hMs _ m1).2.2, (hMs _ m2).2.2, fun H7 s7 => ?_⟩
                    exact kk _ _ s7 ⟨pp, epp, rfl⟩
                  · intro H6 lb s6 eD hpl
                    have elb : lb = ((pairsL Ms).map fun p => orthB L p.1 p.2 n).map V.bl := by
                      have h1 := paired_at (F := fun v (p : List (List Int) × List (List Int)) => v = V.bl (orthB L p.1 p.2 n)) (m := pairsL Ms) (Paired.length hl) hpl
                      have key : ∀ {vs : List V} {ps : List (List (List Int) × List (List Int))}, Paired (fun v p => v = V.bl (orthB L p.1 p.2 n)) vs ps → vs = (ps.map fun p => orthB L p.1 p.2 n).map V.bl := fun h => by
                        induction h with
                        | nil => rfl
                        | cons r _ ih => rw [List.map_cons, List.map_cons, ← ih, r]
                      exact key h1
                    subst elb
                    refine ⟨D5, _, rfl, .inl (.inl eD), ?_⟩
                    have := q H6 (s1.trans (s14.trans (s5.trans s6)))
                    have e9 : partB L Ms n = (((pairsL Ms).map fun p => orthB L p.1 p.2 n).all id) := by
                      unfold partB
                      rw [decide_eq_true (show Ms.flatten.length = n ∧ (detL n Ms.flatten).natAbs = 1 from ⟨hln, hd⟩), Bool.true_and, List.all_map]
                      rfl
                    rw [e9] at this
                    exact this
              · rw [decide_eq_false hd]
                refine iteT ?_
                exact fin H4 s4 (decide_eq_false fun h => hd h.2)
            · refine .inl ⟨hln, fun H4 s4 => ⟨false, rfl, ?_⟩⟩
              refine iteT ?_
              exact fin H4 s4 (decide_eq_false fun h => hln h.1)
theorem cal_is_parting (T : Top K mg) (hN : base.NoSeer) (hT : P.given.tree = none) : Cal P w K mg base 47 "is_parting" (sp_is_parting K T.C_Grid T.C_Lattice) [] := ⟨⟨_, _, _, [], ok_is_parting T hN hT, T.g_is_parting, T.F_is_parting.kp, T.b_is_parting, .nil⟩⟩

end
end K39
namespace K39
open PySem PySem.Spec PyProof.Rows L2 Gm
open C8 (Cal Met Mak pe_c pe_mt pe_mt0 pe_mk)
section
variable {P : Program} {w : World} {K : PySem.W.Frag} {mg : Str → Option Value} {base : Heap}
/-! ### blocks -/
inductive Blk : List (List Int) → Prop
  | one {a : Int} : 1 ≤ a → a ≤ 4 → Blk [[a]]
  | two {a b c : Int} : 2 ≤ a → a ≤ 3 → (b = 1 ∨ b = -1) → a ≤ c → c ≤ a + 1 → Blk [[a, b], [b, c]]
def LB (p R : Addr) (H : Hp) (v : V) (m : List (List Int)) : Prop := ∃ a ws, v = .ref a ∧ a ≠ p ∧ a ≠ R ∧ H a = some (.lst ws) ∧ Paired (LA p R H) ws m
theorem LB.offp {p R : Addr} {H H' : Hp} {v : V} {m : List (List Int)} (o : Off p H H') (h : LB p R H v m) : LB p R H' v m := let ⟨a, ws, e, n1, n2, x, q⟩ := h; ⟨a, ws, e, n1, n2, o _ _ n1 x, L2.Paired.mapP q fun _ _ => LA.offp o⟩
theorem LB.offR {p R : Addr} {H H' : Hp} {v : V} {m : List (List Int)} (o : Off R H H') (h : LB p R H v m) : LB p R H' v m := let ⟨a, ws, e, n1, n2, x, q⟩ := h; ⟨a, ws, e, n1, n2, o _ _ n2 x, L2.Paired.mapP q fun _ _ => LA.offR o⟩
theorem LB.same {p R : Addr} {H H' : Hp} {v : V} {m : List (List Int)} (s : Same H H') (h : LB p R H v m) : LB p R H' v m := h.offp (Same.off s)
/-- the list of blocks, apart from p -/
def LBs (p : Addr) (H : Hp) (v : V) (bs : List (List (List Int))) : Prop := ∃ a ws, v = .ref a ∧ a ≠ p ∧ H a = some (.lst ws) ∧ Paired (LB p p H) ws bs
theorem LBs.offp {p : Addr} {H H' : Hp} {v : V} {bs : List (List (List Int))} (o : Off p H H') (h : LBs p H v bs) : LBs p H' v bs := let ⟨a, ws, e, n1, x, q⟩ := h; ⟨a, ws, e, n1, o _ _ n1 x, L2.Paired.mapP q fun _ _ => LB.offp o⟩
theorem LBs.same {p : Addr} {H H' : Hp} {v : V} {bs : List (List (List Int))} (s : Same H H') (h : LBs p H v bs) : LBs p H' v bs := h.offp (Same.off s)
def bsum (bs : List (List (List Int))) : Nat := (bs.map List.length).sum
theorem bsum_app (bs : List (List (List Int))) (b : List (List Int)) : bsum (bs ++ [b]) = bsum bs + b.length := by
  unfold bsum
  rw [List.map_append, List.sum_append]
  rfl
theorem blk_len {b : List (List Int)} (h : Blk b) : 1 ≤ b.length := by
  cases h <;> exact Nat.succ_pos _
theorem bs_len : ∀ {l : List (List (List Int))}, (∀ b ∈ l, Blk b) → l.length ≤ bsum l
  | [], _ => Nat.le_refl _
  | b :: l, h => by
    have h1 := bs_len (l := l) fun c hc => h c (List.mem_cons_of_mem _ hc)
    have h2 := blk_len (h b (List.mem_cons_self ..))
    show l.length + 1 ≤ b.length + bsum l
    omega
structure BInv (H0 : Hp) (p R : Addr) (H : Hp) (ws : List V) (bs : List (List (List Int))) : Prop where
  off : Off p H0 H
  st : StAt H p
  hR : H R = some (.lst ws)
  pr : Paired (LB p R H) ws bs
  blk : ∀ b ∈ bs, Blk b
theorem BInv.offp {H0 H H' : Hp} {p R : Addr} {ws : List V} {bs : List (List (List Int))} (h : BInv H0 p R H ws bs) (hpR : p ≠ R) (o : Off p H H') (st : StAt H' p) : BInv H0 p R H' ws bs :=
  ⟨Off.trans h.off o, st, o _ _ hpR.symm h.hR, L2.Paired.mapP h.pr fun _ _ => LB.offp o, h.blk⟩
theorem BInv.app {H0 H H' : Hp} {p R : Addr} {ws : List V} {bs : List (List (List Int))} {v : V} {b : List (List Int)} (h : BInv H0 p R H ws bs) (hpR : p ≠ R) (nR : H0 R = none) (s : Same H H') (hv : LB p R H' v b) (hb : Blk b) : BInv H0 p R (upd H' R (.lst (ws ++ [v]))) (ws ++ [v]) (bs ++ [b]) := by
  refine ⟨fun c o nc e => ?_, ?_, upd_same, Paired.snoc (L2.Paired.mapP h.pr fun _ _ x => LB.offR Off.upd (LB.same s x)) (LB.offR Off.upd hv), fun c hc => ?_⟩
  · rw [upd_ne (ne_of_none e nR)]
    exact s _ _ (h.off _ _ nc e)
  · obtain ⟨a1, a2, e, h0⟩ := h.st
    exact ⟨a1, a2, by rw [upd_ne hpR]; exact s _ _ e, h0⟩
  · rcases List.mem_append.mp hc with h1 | h1
    · exact h.blk c h1
    · rw [List.mem_singleton.mp h1]
      exact hb
/-- a block of one -/
theorem lb_one {p R q1 q2 : Addr} {H : Hp} {x : Int} {l : List V} (st : StAt H p) (eR : H R = some (.lst l)) (n1 : H q1 = none) (n2 : (upd H q1 (.lst [.int x])) q2 = none) : LB p R (upd (upd H q1 (.lst [.int x])) q2 (.lst [.ref q1])) (.ref q2) [[x]] ∧ Same H (upd (upd H q1 (.lst [.int x])) q2 (.lst [.ref q1])) := by
  obtain ⟨_, _, ep, _⟩ := st
  have s1 : Same H (upd H q1 (.lst [.int x])) := same_upd n1
  have s2 : Same (upd H q1 (.lst [.int x])) (upd (upd H q1 (.lst [.int x])) q2 (.lst [.ref q1])) := same_upd n2
  have d1 : q1 ≠ p := (ne_of_none ep n1).symm
  have d2 : q1 ≠ R := (ne_of_none eR n1).symm
  have d3 : q2 ≠ p := (ne_of_none (s1 _ _ ep) n2).symm
  have d4 : q2 ≠ R := (ne_of_none (s1 _ _ eR) n2).symm
  exact ⟨⟨q2, _, rfl, d3, d4, upd_same, .cons ⟨q1, rfl, d1, d2, s2 _ _ upd_same⟩ .nil⟩, s1.trans s2⟩
theorem lb_two {p R q1 q2 q3 : Addr} {H2 : Hp} {x y z w : Int} {l : List V} (st : StAt H2 p) (eR : H2 R = some (.lst l)) (h1 : H2 q1 = some (.lst [.int x, .int y])) (d1 : q1 ≠ p) (d2 : q1 ≠ R) (n2 : H2 q2 = none) (n3 : (upd H2 q2 (.lst [.int z, .int w])) q3 = none) :
    LB p R (upd (upd H2 q2 (.lst [.int z, .int w])) q3 (.lst [.ref q1, .ref q2])) (.ref q3) [[x, y], [z, w]] ∧ Same H2 (upd (upd H2 q2 (.lst [.int z, .int w])) q3 (.lst [.ref q1, .ref q2])) := by
  obtain ⟨_, _, ep, _⟩ := st
  have s1 : Same H2 (upd H2 q2 (.lst [.int z, .int w])) := same_upd n2
  have s2 : Same (upd H2 q2 (.lst [.int z, .int w])) (upd (upd H2 q2 (.lst [.int z, .int w])) q3 (.lst [.ref q1, .ref q2])) := same_upd n3
  have c1 : q2 ≠ p := (ne_of_none ep n2).symm
  have c2 : q2 ≠ R := (ne_of_none eR n2).symm
  have c3 : q3 ≠ p := (ne_of_none (s1 _ _ ep) n3).symm
  have c4 : q3 ≠ R := (ne_of_none (s1 _ _ eR) n3).symm
  exact ⟨⟨q3, _, rfl, c3, c4, upd_same, .cons ⟨q1, rfl, d1, d2, s2 _ _ (s1 _ _ h1)⟩ (.cons ⟨q2, rfl, c1, c2, s2 _ _ upd_same⟩ .nil)⟩, s1.trans s2⟩
def sp_law_blocks : Sp := fun vs H Q _ => ∃ (p : Addr), vs = [.ref p] ∧ StAt H p ∧ ∀ v bs H', Off p H H' → StAt H' p → LBs p H' v bs → (∀ b ∈ bs, Blk b) → 0 < bsum bs → bsum bs ≤ 3 → Q v H'
theorem ok_law_blocks (T : Top K mg) (hN : base.NoSeer) (hT : P.given.tree = none) : FnOk P w K mg base CX0 2 T.a_law_blocks T.d_law_blocks ["state"] sp_law_blocks := by
  refine T.F_law_blocks.ok sc_law_blocks (fun vs H Q E h => ?_) (fun cdv A outer s H vs Q E hr h => ?_)
  · obtain ⟨p, rfl, _⟩ := h
    rfl
  · obtain ⟨p, rfl, st, q⟩ := h
    refine ⟨_, (pss_cons (ps_set (i := 1) sc_law_blocks.nd rfl (by first | exact .inl rfl | exact .inr rfl) (pe_lst pa_nil))
      (pss_cons (ps_set (i := 2) sc_law_blocks.nd rfl (by first | exact .inl rfl | exact .inr rfl) pe_int)
      (pss_cons (ps_for PassesOwn.never rfl (pi_range1 (by rfl) T.z_range (pa_cons (pe_op op_add pe_int (pe_c (cal_law_take T hN hT) hr (by decide) (by rfl) (pa_cons (pv 0) (pa_cons pe_int pa_nil)))) pa_nil)) (pg_name (i := 3) sc_law_blocks.nd rfl (by first | exact .inl rfl | exact .inr rfl))
      (pss_one (ps_if (PW.pt (pw_and (pt_cmpR op_lt (pv 2) pe_int (nomark _)) (pw_and1 (pt_cmpR op_eq (pe_c (cal_law_take T hN hT) hr (by decide) (by rfl) (pa_cons (pv 0) (pa_cons pe_int pa_nil))) pe_int (nomark _)))))
      (pss_cons (ps_expr (pe_bm PySem.F.plainAttrs_list PySem.F.slot_list_append PySem.F.type_list_append mt_append (pv 1) (pa_cons (pe_lst (pa_cons (pe_lst (pa_cons (pe_op op_add pe_int (pe_c (cal_law_take T hN hT) hr (by decide) (by rfl) (pa_cons (pv 0) (pa_cons pe_int pa_nil)))) pa_nil)) pa_nil)) pa_nil)))
      (pss_one (ps_set (i := 2) sc_law_blocks.nd rfl (by first | exact .inl rfl | exact .inr rfl) (pe_op op_add (pv 2) pe_int))))
      (pss_one (ps_if (pt_cmpR op_lt (pv 2) pe_int (nomark _))
      (pss_cons (ps_set (i := 4) sc_law_blocks.nd rfl (by first | exact .inl rfl | exact .inr rfl) (pe_op op_add pe_int (pe_c (cal_law_take T hN hT) hr (by decide) (by rfl) (pa_cons (pv 0) (pa_cons pe_int pa_nil)))))
      (pss_cons (ps_set (i := 5) sc_law_blocks.nd rfl (by first | exact .inl rfl | exact .inr rfl) (pe_op op_sub (pe_op op_mulX pe_int (pe_c (cal_law_take T hN hT) hr (by decide) (by rfl) (pa_cons (pv 0) (pa_cons pe_int pa_nil)))) pe_int))
      (pss_cons (ps_expr (pe_bm PySem.F.plainAttrs_list PySem.F.slot_list_append PySem.F.type_list_append mt_append (pv 1) (pa_cons (pe_lst (pa_cons (pe_lst (pa_cons (pv 4) (pa_cons (pv 5) pa_nil))) (pa_cons (pe_lst (pa_cons (pv 5) (pa_cons (pe_op op_add (pv 4) (pe_c (cal_law_take T hN hT) hr (by decide) (by rfl) (pa_cons (pv 0) (pa_cons pe_int pa_nil)))) pa_nil))) pa_nil))) pa_nil)))
      (pss_one (ps_set (i := 2) sc_law_blocks.nd rfl (by first | exact .inl rfl | exact .inr rfl) (pe_op op_add (pv 2) pe_int))))))
      pss_nil)))))
      (pss_cons (ps_if (pt_cmpR op_eq (pv 2) pe_int (nomark _))
      (pss_one (ps_expr (pe_bm PySem.F.plainAttrs_list PySem.F.slot_list_append PySem.F.type_list_append mt_append (pv 1) (pa_cons (pe_lst (pa_cons (pe_lst (pa_cons (pe_op op_add pe_int (pe_c (cal_law_take T hN hT) hr (by decide) (by rfl) (pa_cons (pv 0) (pa_cons pe_int pa_nil)))) pa_nil)) pa_nil)) pa_nil))))
      pss_nil)
      (pss_one (ps_ret (pv 1))))))), ?_⟩
    refine ⟨by show 0 ≤ sizeLine; decide, fun R nR => ?_⟩
    have hpR := st.ne nR
    have s1 := same_upd (o := .lst []) nR
    have I0 : BInv H p R (upd H R (.lst [])) [] [] := ⟨Same.off s1, let ⟨a1, a2, e, h0⟩ := st; ⟨a1, a2, s1 _ _ e, h0⟩, upd_same, .nil, fun b hb => (by cases hb)⟩
    generalize upd H R (.lst []) = H1 at s1 I0 ⊢
    refine ⟨_, rfl, p, 3, rfl, I0.st, by decide, by decide, fun r H2 hr2 o2 st2 => ⟨_, _, rfl, rfl, _, rfl, by omega, by omega, ?_⟩⟩
    have I2 := I0.offp hpR o2 st2
    refine for_it walk_range (fun i σ H3 => ∃ (y3 y4 y5 : Option V) (ws : List V) (bs : List (List (List Int))), σ = [some (.ref p), some (.ref R), some (.int (bsum bs : Nat)), y3, y4, y5] ∧ BInv H p R H3 ws bs ∧ bsum bs ≤ 3) ⟨none, none, none, [], [], rfl, I2, Nat.zero_le _⟩ (fun _ _ _ _ _ => trivial) ?_ ?_
    · rintro i x σ H3 H3' hi ⟨y3, y4, y5, ws, bs, rfl, I3, b3⟩ ⟨rfl, rfl⟩
      refine ⟨_, rfl, _, _, rfl, rfl, _, rfl, ?_⟩
      by_cases h3 : bsum bs < 3
      · rw [decide_eq_true (show ((bsum bs : Nat) : Int) < 3 by omega)]
        refine iteT ?_
        refine ⟨_, rfl, p, 2, rfl, I3.st, by decide, by decide, fun t H4 ht o4 st4 => ⟨rfl, _, rfl, ?_⟩⟩
        have I4 := I3.offp hpR o4 st4
        by_cases h0 : V.int (t : Nat) = V.int 0
        · rw [decide_eq_true h0]
          refine iteT ?_
          refine ⟨_, rfl, .inl ⟨rfl, _, .inl (.inl I4.hR)⟩, ?_⟩
          refine ⟨_, rfl, p, 4, rfl, I4.st, by decide, by decide, fun r5 H5 hr5 o5 st5 => ⟨_, _, rfl, rfl, by show 1 ≤ sizeLine; decide, fun q1 n1 => ⟨by show 1 ≤ sizeLine; decide, fun q2 n2 => ?_⟩⟩⟩
          have I5 := I4.offp hpR o5 st5
          obtain ⟨hb, sb⟩ := lb_one (x := 1 + (r5 : Int)) st5 I5.hR n1 n2
          have hR' := sb _ _ I5.hR
          have lws := Paired.length I5.pr
          have hlen : bs.length ≤ 3 := Nat.le_trans (bs_len I5.blk) b3
          refine ⟨R, ws, _, rfl, rfl, hR', small1000 (by omega), ?_⟩
          have I9 := I5.app hpR nR sb hb (Blk.one (a := 1 + (r5 : Int)) (by omega) (by omega))
          refine ⟨_, rfl, _, _, rfl, rfl, ?_⟩
          exact ⟨some (.int (0 + (i : Int))), y4, y5, _, _, by rw [bsum_app]; rfl, I9, by rw [bsum_app]; show bsum bs + 1 ≤ 3; omega⟩
        · rw [decide_eq_false h0]
          refine iteF ?_
          refine ⟨_, rfl, _, _, rfl, rfl, _, rfl, ?_⟩
          by_cases h2 : bsum bs < 2
          · rw [decide_eq_true (show ((bsum bs : Nat) : Int) < 2 by omega)]
            refine iteT ?_
            refine ⟨_, rfl, p, 2, rfl, I4.st, by decide, by decide, fun ra Ha hra oa sta => ⟨_, _, rfl, rfl, ?_⟩⟩
            have Ia := I4.offp hpR oa sta
            refine ⟨_, rfl, p, 2, rfl, Ia.st, by decide, by decide, fun rb Hb hrb ob stb => ⟨_, _, rfl, rfl, mulx_ok (show (2 : Int).natAbs < 2 ^ 2 by decide) (show ((rb : Nat) : Int).natAbs < 2 ^ 2 by omega) (by decide), _, _, rfl, rfl, ?_⟩⟩
            have Ib := Ia.offp hpR ob stb
            refine ⟨_, rfl, .inl ⟨rfl, _, .inl (.inl Ib.hR)⟩, ?_⟩
            refine ⟨_, rfl, _, rfl, by show 2 ≤ sizeLine; decide, fun q1 n1 => ?_⟩
            have sq := same_upd (o := .lst [V.int (2 + (ra : Int)), V.int (2 * (rb : Int) - 1)]) n1
            have stq : StAt (upd Hb q1 (.lst [V.int (2 + (ra : Int)), V.int (2 * (rb : Int) - 1)])) p := stb.same sq
            have eq1 : (upd Hb q1 (.lst [V.int (2 + (ra : Int)), V.int (2 * (rb : Int) - 1)])) q1 = some (.lst [V.int (2 + (ra : Int)), V.int (2 * (rb : Int) - 1)]) := upd_same
            have d1 : q1 ≠ p := (stb.ne n1).symm
            have d2 : q1 ≠ R := (ne_of_none Ib.hR n1).symm
            generalize upd Hb q1 (.lst [V.int (2 + (ra : Int)), V.int (2 * (rb : Int) - 1)]) = Hq at sq stq eq1 ⊢
            refine ⟨_, rfl, _, rfl, _, rfl, p, 2, rfl, stq, by decide, by decide, fun rc Hc hrc oc stc => ⟨_, _, rfl, rfl, by show 2 ≤ sizeLine; decide, fun q2 n2 => ⟨by show 2 ≤ sizeLine; decide, fun q3 n3 => ?_⟩⟩⟩
            have Ic : BInv H p R Hc ws bs := (Ib.offp hpR (Off.trans (Same.off sq) oc) stc)
            obtain ⟨hb, sb⟩ := lb_two (z := 2 * (rb : Int) - 1) (w := 2 + (ra : Int) + (rc : Int)) stc Ic.hR (oc _ _ d1 eq1) d1 d2 n2 n3
            have hR' := sb _ _ Ic.hR
            have lws := Paired.length Ic.pr
            have hlen : bs.length ≤ 3 := Nat.le_trans (bs_len Ic.blk) b3
            refine ⟨R, ws, _, rfl, rfl, hR', small1000 (by omega), ?_⟩
            have I9 := Ic.app hpR nR sb hb (Blk.two (a := 2 + (ra : Int)) (by omega) (by omega) (by omega) (by omega) (by omega))
            refine ⟨_, rfl, _, _, rfl, rfl, ?_⟩
            exact ⟨some (.int (0 + (i : Int))), some (.int (2 + (ra : Int))), some (.int (2 * (rb : Int) - 1)), _, _, by rw [bsum_app]; rfl, I9, by rw [bsum_app]; show bsum bs + 2 ≤ 3; omega⟩
          · rw [decide_eq_false (show ¬ ((bsum bs : Nat) : Int) < 2 by omega)]
            refine iteF ?_
            exact ⟨some (.int (0 + (i : Int))), y4, y5, ws, bs, rfl, I4, b3⟩
      · rw [decide_eq_false (show ¬ ((bsum bs : Nat) : Int) < 3 by omega)]
        refine iteF ?_
        refine ⟨_, rfl, _, _, rfl, rfl, _, rfl, ?_⟩
        by_cases h2 : bsum bs < 2
        · rw [decide_eq_true (show ((bsum bs : Nat) : Int) < 2 by omega)]
          refine iteT ?_
          refine ⟨_, rfl, p, 2, rfl, I3.st, by decide, by decide, fun ra Ha hra oa sta => ⟨_, _, rfl, rfl, ?_⟩⟩
          have Ia := I3.offp hpR oa sta
          refine ⟨_, rfl, p, 2, rfl, Ia.st, by decide, by decide, fun rb Hb hrb ob stb => ⟨_, _, rfl, rfl, mulx_ok (show (2 : Int).natAbs < 2 ^ 2 by decide) (show ((rb : Nat) : Int).natAbs < 2 ^ 2 by omega) (by decide), _, _, rfl, rfl, ?_⟩⟩
          have Ib := Ia.offp hpR ob stb
          refine ⟨_, rfl, .inl ⟨rfl, _, .inl (.inl Ib.hR)⟩, ?_⟩
          refine ⟨_, rfl, _, rfl, by show 2 ≤ sizeLine; decide, fun q1 n1 => ?_⟩
          have sq := same_upd (o := .lst [V.int (2 + (ra : Int)), V.int (2 * (rb : Int) - 1)]) n1
          have stq : StAt (upd Hb q1 (.lst [V.int (2 + (ra : Int)), V.int (2 * (rb : Int) - 1)])) p := stb.same sq
          have eq1 : (upd Hb q1 (.lst [V.int (2 + (ra : Int)), V.int (2 * (rb : Int) - 1)])) q1 = some (.lst [V.int (2 + (ra : Int)), V.int (2 * (rb : Int) - 1)]) := upd_same
          have d1 : q1 ≠ p := (stb.ne n1).symm
          have d2 : q1 ≠ R := (ne_of_none Ib.hR n1).symm
          generalize upd Hb q1 (.lst [V.int (2 + (ra : Int)), V.int (2 * (rb : Int) - 1)]) = Hq at sq stq eq1 ⊢
          refine ⟨_, rfl, _, rfl, _, rfl, p, 2, rfl, stq, by decide, by decide, fun rc Hc hrc oc stc => ⟨_, _, rfl, rfl, by show 2 ≤ sizeLine; decide, fun q2 n2 => ⟨by show 2 ≤ sizeLine; decide, fun q3 n3 => ?_⟩⟩⟩
          have Ic : BInv H p R Hc ws bs := (Ib.offp hpR (Off.trans (Same.off sq) oc) stc)
          obtain ⟨hb, sb⟩ := lb_two (z := 2 * (rb : Int) - 1) (w := 2 + (ra : Int) + (rc : Int)) stc Ic.hR (oc _ _ d1 eq1) d1 d2 n2 n3
          have hR' := sb _ _ Ic.hR
          have lws := Paired.length Ic.pr
          have hlen : bs.length ≤ 3 := Nat.le_trans (bs_len Ic.blk) b3
          refine ⟨R, ws, _, rfl, rfl, hR', small1000 (by omega), ?_⟩
          have I9 := Ic.app hpR nR sb hb (Blk.two (a := 2 + (ra : Int)) (by omega) (by omega) (by omega) (by omega) (by omega))
          refine ⟨_, rfl, _, _, rfl, rfl, ?_⟩
          exact ⟨some (.int (0 + (i : Int))), some (.int (2 + (ra : Int))), some (.int (2 * (rb : Int) - 1)), _, _, by rw [bsum_app]; rfl, I9, by rw [bsum_app]; show bsum bs + 2 ≤ 3; omega⟩
        · rw [decide_eq_false (show ¬ ((bsum bs : Nat) : Int) < 2 by omega)]
          refine iteF ?_
          exact ⟨some (.int (0 + (i : Int))), y4, y5, ws, bs, rfl, I3, b3⟩
    · rintro σ H3 ⟨y3, y4, y5, ws, bs, rfl, I4, b3⟩
      have fin : ∀ {H9 : Hp} {ws' : List V} {bs' : List (List (List Int))}, BInv H p R H9 ws' bs' → 0 < bsum bs' → bsum bs' ≤ 3 → Q (.ref R) H9 := fun I9 h0 h3 => q _ _ _ I9.off I9.st ⟨R, _, rfl, hpR.symm, I9.hR, L2.Paired.mapP I9.pr fun _ _ ⟨a, w0, e, n1, n2, x, pr⟩ => ⟨a, w0, e, n1, n1, x, L2.Paired.mapP pr fun _ _ ⟨c, ev, m1, m2, e⟩ => ⟨c, ev, m1, m1, e⟩⟩⟩ I9.blk h0 h3
      refine ⟨_, rfl, rfl, _, rfl, ?_⟩
      by_cases h0 : bsum bs = 0
      · rw [show decide (V.int (bsum bs : Nat) = V.int 0) = true from decide_eq_true (by rw [h0]; rfl)]
        refine iteT ?_
        refine ⟨_, rfl, .inl ⟨rfl, _, .inl (.inl I4.hR)⟩, ?_⟩
        refine ⟨_, rfl, p, 4, rfl, I4.st, by decide, by decide, fun r5 H5 hr5 o5 st5 => ⟨_, _, rfl, rfl, by show 1 ≤ sizeLine; decide, fun q1 n1 => ⟨by show 1 ≤ sizeLine; decide, fun q2 n2 => ?_⟩⟩⟩
        have I5 := I4.offp hpR o5 st5
        obtain ⟨hb, sb⟩ := lb_one (x := 1 + (r5 : Int)) st5 I5.hR n1 n2
        have hR' := sb _ _ I5.hR
        have lws := Paired.length I5.pr
        refine ⟨R, ws, _, rfl, rfl, hR', small1000 (by have := bs_len I5.blk; omega), ?_⟩
        have I9 := I5.app hpR nR sb hb (Blk.one (a := 1 + (r5 : Int)) (by omega) (by omega))
        exact ⟨_, rfl, fin I9 (by rw [bsum_app]; exact Nat.succ_pos _) (by rw [bsum_app]; show bsum bs + 1 ≤ 3; omega)⟩
      · rw [show decide (V.int (bsum bs : Nat) = V.int 0) = false from decide_eq_false fun e => h0 (by have := V.int.inj e; omega)]
        refine iteF ?_
        exact ⟨_, rfl, fin I4 (by omega) b3⟩
theorem cal_law_blocks (T : Top K mg) (hN : base.NoSeer) (hT : P.given.tree = none) : Cal P w K mg base 2 "_law_blocks" sp_law_blocks [] := ⟨⟨_, _, _, [], ok_law_blocks T hN hT, T.g_law_blocks, T.F_law_blocks.kp, T.b_law_blocks, .nil⟩⟩

end
end K39
namespace K39
open PySem PySem.Spec PyProof.Rows L2 Gm
open C8 (Cal Met Mak pe_c pe_mt pe_mt0 pe_mk)
section
variable {P : Program} {w : World} {K : PySem.W.Frag} {mg : Str → Option Value} {base : Heap}
/-! ### the blocks joined -/
def joinE : List (List (List Int)) → Nat → Nat → Int
  | [], _, _ => 0
  | b :: bs, x, y => if x < b.length ∧ y < b.length then ent b x y else if b.length ≤ x ∧ b.length ≤ y then joinE bs (x - b.length) (y - b.length) else 0
theorem joinE_app (b : List (List Int)) : ∀ (l : List (List (List Int))) (x y : Nat), joinE (l ++ [b]) x y = if bsum l ≤ x ∧ x < bsum l + b.length ∧ bsum l ≤ y ∧ y < bsum l + b.length then ent b (x - bsum l) (y - bsum l) else joinE l x y
  | [], x, y => by
    show (if x < b.length ∧ y < b.length then ent b x y else if b.length ≤ x ∧ b.length ≤ y then 0 else 0) = if 0 ≤ x ∧ x < 0 + b.length ∧ 0 ≤ y ∧ y < 0 + b.length then ent b (x - 0) (y - 0) else 0
    by_cases h : x < b.length ∧ y < b.length
    · rw [if_pos h, if_pos (by omega)]
      rfl
    · rw [if_neg h, show (if b.length ≤ x ∧ b.length ≤ y then (0 : Int) else 0) = 0 by split <;> rfl, if_neg (by omega)]
  | c :: l, x, y => by
    have e : bsum (c :: l) = c.length + bsum l := rfl
    rw [e]
    show (if x < c.length ∧ y < c.length then ent c x y else if c.length ≤ x ∧ c.length ≤ y then joinE (l ++ [b]) (x - c.length) (y - c.length) else 0) = if _ then _ else (if x < c.length ∧ y < c.length then ent c x y else if c.length ≤ x ∧ c.length ≤ y then joinE l (x - c.length) (y - c.length) else 0)
    by_cases h1 : x < c.length ∧ y < c.length
    · rw [if_pos h1, if_pos h1, if_neg (by omega)]
    · rw [if_neg h1, if_neg h1]
      by_cases h2 : c.length ≤ x ∧ c.length ≤ y
      · rw [if_pos h2, if_pos h2, joinE_app b l]
        by_cases h3 : bsum l ≤ x - c.length ∧ x - c.length < bsum l + b.length ∧ bsum l ≤ y - c.length ∧ y - c.length < bsum l + b.length
        · rw [if_pos h3, if_pos (by omega), Nat.sub_sub, Nat.sub_sub]
        · rw [if_neg h3, if_neg (by omega)]
      · rw [if_neg h2, if_neg h2, if_neg (by omega)]
def matF (n : Nat) (F : Nat → Nat → Int) : List (List Int) := (List.range n).map fun x => (List.range n).map fun y => F x y
theorem matF_congr {n : Nat} {F G : Nat → Nat → Int} (h : ∀ x y, x < n → y < n → F x y = G x y) : matF n F = matF n G :=
  List.map_congr_left fun x hx => List.map_congr_left fun y hy => h x y (List.mem_range.mp hx) (List.mem_range.mp hy)
theorem matF_at {n x : Nat} {F : Nat → Nat → Int} (hx : x < n) : (matF n F)[x]? = some ((List.range n).map fun y => F x y) := by
  unfold matF
  rw [List.getElem?_map, List.getElem?_range hx]
  rfl
theorem matF_set {n x y : Nat} {F : Nat → Nat → Int} {z : Int} (hx : x < n) (hy : y < n) : (matF n F).set x (((List.range n).map fun b => F x b).set y z) = matF n fun a b => if a = x ∧ b = y then z else F a b := by
  apply List.ext_getElem?
  intro i
  by_cases hi : i < n
  · rw [matF_at hi, List.getElem?_set]
    by_cases e : x = i
    · subst e
      rw [if_pos rfl, if_pos (by unfold matF; rw [List.length_map, List.length_range]; exact hi)]
      congr 1
      apply List.ext_getElem?
      intro j
      rw [List.getElem?_set]
      by_cases e2 : y = j
      · subst e2
        rw [if_pos rfl, if_pos (by rw [List.length_map, List.length_range]; exact hy), List.getElem?_map, List.getElem?_range hy]
        show some z = some (if x = x ∧ y = y then z else F x y)
        rw [if_pos ⟨rfl, rfl⟩]
      · rw [if_neg e2, List.getElem?_map, List.getElem?_map]
        by_cases hj : j < n
        · rw [List.getElem?_range hj]
          show some (F x j) = some (if x = x ∧ j = y then z else F x j)
          rw [if_neg fun h => e2 h.2.symm]
        · rw [List.getElem?_eq_none (by rw [List.length_range]; omega)]
          rfl
    · rw [if_neg e, matF_at hi]
      congr 1
      refine List.map_congr_left fun j _ => ?_
      rw [if_neg fun h => e h.1.symm]
  · rw [List.getElem?_eq_none (by rw [List.length_set]; unfold matF; rw [List.length_map, List.length_range]; omega), List.getElem?_eq_none (by unfold matF; rw [List.length_map, List.length_range]; omega)]
theorem blk_row {b : List (List Int)} (h : Blk b) : ∀ r ∈ b, r.length = b.length := by
  cases h <;> simp
def joinM (bs : List (List (List Int))) : List (List Int) := matF (bsum bs) (joinE bs)
theorem bsum_take {bs : List (List (List Int))} {i : Nat} {b : List (List Int)} (h : bs[i]? = some b) : bs.take (i + 1) = bs.take i ++ [b] ∧ bsum (bs.take i) + b.length ≤ bsum bs := by
  have e : bs.take (i + 1) = bs.take i ++ [b] := by rw [List.take_add_one, h]; rfl
  refine ⟨e, ?_⟩
  have e2 : bsum bs = bsum (bs.take (i + 1)) + bsum (bs.drop (i + 1)) := by
    unfold bsum
    rw [← List.sum_append, ← List.map_append, List.take_append_drop]
  rw [e, bsum_app] at e2
  omega
def sp_law_joined : Sp := fun vs H Q _ => ∃ (p : Addr) (v : V) (bs : List (List (List Int))), vs = [v] ∧ StAt H p ∧ LBs p H v bs ∧ (∀ b ∈ bs, Blk b) ∧ bsum bs ≤ 3 ∧ ∀ v' H', Same H H' → LAs p H' v' (joinM bs) → Q v' H'
theorem ok_law_joined (T : Top K mg) (hN : base.NoSeer) (hT : P.given.tree = none) : FnOk P w K mg base CX0 1 T.a_law_joined T.d_law_joined ["blocks_v"] sp_law_joined := by
  refine T.F_law_joined.ok sc_law_joined (fun vs H Q E h => ?_) (fun cdv A outer s H vs Q E hr h => ?_)
  · obtain ⟨p, v, bs, rfl, _⟩ := h
    rfl
  · obtain ⟨p, v, bs, rfl, st, ⟨a, ws, rfl, nap, ha, hp⟩, hb, h3, q⟩ := h
    have lws := Paired.length hp
    have lbs := bs_len hb
    refine ⟨_, (pss_cons (ps_set (i := 1) sc_law_joined.nd rfl (by first | exact .inl rfl | exact .inr rfl) (pe_callB (sumK K rfl rfl) (by rfl) T.z_sum (by decide +kernel) (pa_cons (pe_lc (own := [("block", 4)]) (g := (gName 4)) (by rfl) sc_law_joined.nd (piS K rfl (pv 0)) ((by show BlkOk ["blocks_v", "size", "rows", "at", "block", "i", "j"] (defScope s_law_joined) _ _; exact blkOk_by (by decide +kernel))) (fun _ _ _ _ _ => (pg_name (i := 4) sc_law_joined.nd rfl (by first | exact .inl rfl | exact .inr rfl))) (fun _ _ _ _ _ => pts_nil) (fun _ _ _ _ _ => (pe_callB (lenS K rfl) (by rfl) T.z_len (by decide +kernel) (pa_cons (pv 4) pa_nil)))) pa_nil)))
      (pss_cons (ps_setLc (i := 2) (own := [("i", 5)]) (g := (gName 5)) (by rfl) sc_law_joined.nd rfl rfl (sw_true rfl rfl rfl (by decide +kernel)) (pi_range1 (by rfl) T.z_range (pa_cons (pv 1) pa_nil)) ((by show BlkOk ["blocks_v", "size", "rows", "at", "block", "i", "j"] (defScope s_law_joined) _ _; exact blkOk_by (by decide +kernel))) (fun _ _ _ _ _ => (pg_name (i := 5) sc_law_joined.nd rfl (by first | exact .inl rfl | exact .inr rfl))) (fun _ _ _ _ _ => pts_nil) (fun _ _ _ _ _ => (pe_lc (own := [("j", 6)]) (g := (gName 6)) (by rfl) sc_law_joined.nd (pi_range1 (by rfl) T.z_range (pa_cons (pv 1) pa_nil)) ((by show BlkOk ["blocks_v", "size", "rows", "at", "block", "i", "j"] (relS _ (defScope s_law_joined)) _ _; exact blkOk_by (by decide +kernel))) (fun _ _ _ _ _ => (pg_name (i := 6) sc_law_joined.nd rfl (by first | exact .inl rfl | exact .inr rfl))) (fun _ _ _ _ _ => pts_nil) (fun _ _ _ _ _ => pe_int))))
      (pss_cons (ps_set (i := 3) sc_law_joined.nd rfl (by first | exact .inl rfl | exact .inr rfl) pe_int)
      (pss_cons (ps_for PassesOwn.never rfl (piS K rfl (pv 0)) (pg_name (i := 4) sc_law_joined.nd rfl (by first | exact .inl rfl | exact .inr rfl))
      (pss_cons (ps_for PassesOwn.never rfl (pi_range1 (by rfl) T.z_range (pa_cons (pe_callB (lenS K rfl) (by rfl) T.z_len (by decide +kernel) (pa_cons (pv 4) pa_nil)) pa_nil)) (pg_name (i := 5) sc_law_joined.nd rfl (by first | exact .inl rfl | exact .inr rfl))
      (pss_one (ps_for PassesOwn.never rfl (pi_range1 (by rfl) T.z_range (pa_cons (pe_callB (lenS K rfl) (by rfl) T.z_len (by decide +kernel) (pa_cons (pv 4) pa_nil)) pa_nil)) (pg_name (i := 6) sc_law_joined.nd rfl (by first | exact .inl rfl | exact .inr rfl))
      (pss_one (ps_asg (pe_ix (ixL K rfl) (pe_ix (ixL K rfl) (pv 4) (pv 5) (fun _ _ => rfl)) (pv 6) (fun _ _ => rfl)) (pg_sub (pe_ix (ixL K rfl) (pv 2) (pe_op op_add (pv 3) (pv 5)) (fun _ _ => rfl)) (pe_op op_add (pv 3) (pv 6)) set_list))))))
      (pss_one (ps_set (i := 3) sc_law_joined.nd rfl (by first | exact .inl rfl | exact .inr rfl) (pe_op op_add (pv 3) (pe_callB (lenS K rfl) (by rfl) T.z_len (by decide +kernel) (pa_cons (pv 4) pa_nil)))))))
      (pss_one (ps_ret (pv 2))))))), ?_⟩
    refine ⟨_, rfl, a, ws, rfl, .inl (.inl (.inl ha)), fun J G W hG D hD => ?_⟩
    refine lc_all W hD (by omega) (fun H1 s1 => hG H1 fun b _ o => s1 b o) (fun i v _ => ∃ z, (bs.map fun b => ((b.length : Nat) : Int))[i]? = some z ∧ v = .int z) (fun _ _ _ _ _ _ _ h => h) ?_ gm_name ?_
    · rintro i x H1 H1' acc Ko hi s1 eD ⟨rfl, ex⟩ kk
      obtain ⟨b, eb, ab, wb, rfl, _, _, hab, hpb⟩ := Paired.getR hp ex
      have lwb := Paired.length hpb
      refine ⟨rfl, ?_⟩
      refine ⟨_, rfl, ab, wb, rfl, .inl (.inl (.inl (s1 _ _ hab))), ?_⟩
      exact kk _ _ (Same.refl _) ⟨((b.length : Nat) : Int), by rw [List.getElem?_map, eb]; rfl, by rw [lwb]⟩
    intro H1 l1 s1 eD hpl
    have el := ints_list (by rw [List.length_map, lws]) hpl
    subst el
    refine ⟨D, _, rfl, .inl (.inl eD), ?_⟩
    obtain ⟨n, hn⟩ : ∃ n, bsum bs = n := ⟨_, rfl⟩
    have esum : (bs.map fun b => ((b.length : Nat) : Int)).sum = (n : Int) := by
      rw [← hn]
      have key : ∀ l : List (List (List Int)), (l.map fun b => ((b.length : Nat) : Int)).sum = (bsum l : Int) := fun l => by
        induction l with
        | nil => rfl
        | cons b l ih =>
          rw [List.map_cons, List.sum_cons, ih]
          show _ = ((b.length + bsum l : Nat) : Int)
          omega
      exact key bs
    rw [esum]
    have hn3 : n ≤ 3 := by omega
    have st2 := st.same s1
    refine ⟨_, rfl, (n : Int), rfl, by omega, by omega, fun R nR => ?_⟩
    have hpR := st2.ne nR
    have nRH : H R = none := by
      cases hh : H R with
      | none => rfl
      | some o => rw [s1 _ _ hh] at nR; cases nR
    rw [show ((n : Int)).toNat = n from Int.toNat_natCast _]
    refine lc_it walk_range (Pv := fun i H3 => Same H1 H3 ∧ ∃ gl, H3 R = some (.lst gl) ∧ gl.length = i ∧ gl.Nodup ∧ (∀ q, V.ref q ∈ gl → H1 q = none) ∧ Paired (LA p R H3) gl (List.replicate i (ZL n))) ⟨same_upd nR, [], upd_same, rfl, List.nodup_nil, fun q h => (by cases h), .nil⟩ (fun _ _ _ _ => trivial) ?_ ?_
    · rintro i x H3 H3' hi ⟨s3, gl, eR, lgl, nd, fr, hgl⟩ ⟨rfl, rfl⟩
      refine ⟨rfl, tyes_of ?_⟩
      refine ⟨_, rfl, (n : Int), rfl, by omega, by omega, fun D2 hD2 => ?_⟩
      rw [show ((n : Int)).toNat = n from Int.toNat_natCast _]
      refine lc_all walk_range hD2 (by omega) (fun _ _ => trivial) (fun j v _ => ∃ z, (ZL n)[j]? = some z ∧ v = .int z) (fun _ _ _ _ _ _ _ h => h) ?_ gm_name ?_
      · rintro j y2 H8 H8' acc2 Ko2 hj s8 eD2 ⟨rfl, rfl⟩ k2
        refine ⟨rfl, ?_⟩
        refine k2 _ _ (Same.refl _) ⟨0, ?_, rfl⟩
        unfold ZL
        rw [List.getElem?_replicate, if_pos hj]
      · intro H8 l3 s8 eD3 hpl3
        have el := ints_list (by unfold ZL; rw [List.length_replicate]) hpl3
        subst el
        have hRD : D2 ≠ R := (ne_of_none eR hD2).symm
        have hpD : D2 ≠ p := (StAt.ne (st2.same s3) hD2).symm
        refine ⟨gl, s8 _ _ eR, small1000 (by omega), fun b o e => ?_, gl ++ [.ref D2], upd_same, by rw [List.length_append, lgl]; rfl, ?_, fun q hq => ?_, ?_⟩
        · rw [L2.upd_ne (ne_of_none e nR)]
          exact s8 _ _ (s3 _ _ e)
        · refine List.nodup_append.mpr ⟨nd, by simp, fun a ha b hb => ?_⟩
          have hb' : b = .ref D2 := by simpa using hb
          rw [hb']
          rintro rfl
          obtain ⟨k, hk⟩ := List.getElem?_of_mem ha
          obtain ⟨r9, _, q9, e9, _, _, h9⟩ := Paired.getR hgl hk
          cases e9
          rw [h9] at hD2
          cases hD2
        · rcases List.mem_append.mp hq with h | h
          · exact fr q h
          · have e9 : q = D2 := by simpa using h
            rw [e9]
            cases e : H1 D2 with
            | none => rfl
            | some o =>
              rw [s3 _ _ e] at hD2
              cases hD2
        · rw [List.replicate_succ']
          refine Paired.snoc (L2.Paired.mapP hgl fun _ _ h => LA.offR Off.upd (LA.same s8 h)) ⟨D2, rfl, hpD, hRD, ?_⟩
          rw [L2.upd_ne hRD]
          exact eD3
    rintro H3 ⟨s3, gl, eR, lgl, nd, fr, hgl⟩
    have frH : ∀ q, V.ref q ∈ gl → H q = none := fun q hq => by
      have h1 := fr q hq
      cases e : H q with
      | none => rfl
      | some o => rw [s1 _ _ e] at h1; cases h1
    have z0 : List.replicate n (ZL n) = matF n (joinE []) := by
      unfold matF ZL
      apply List.ext_getElem?
      intro i
      rw [List.getElem?_replicate, List.getElem?_map]
      by_cases hi : i < n
      · rw [if_pos hi, List.getElem?_range hi]
        show some _ = some _
        congr 1
        apply List.ext_getElem?
        intro j
        rw [List.getElem?_replicate, List.getElem?_map]
        by_cases hj : j < n
        · rw [if_pos hj, List.getElem?_range hj]
          rfl
        · rw [if_neg hj, List.getElem?_eq_none (by rw [List.length_range]; omega)]
          rfl
      · rw [if_neg hi, List.getElem?_eq_none (by rw [List.length_range]; omega)]
        rfl
    rw [z0] at hgl
    have ra0 : RowsAt p R H H3 (matF n (joinE [])) := ⟨gl, eR, nd, frH, hgl⟩
    have sH3 := s1.trans s3
    clear hgl frH fr nd eR lgl s3
    refine ⟨_, rfl, a, ws, rfl, .inl (.inl (.inl (sH3 _ _ ha))), fun J2 G2 W2 hG2 => ?_⟩
    refine for_it W2 (fun i σ H4 => ∃ (y4 y5 y6 : Option V), σ = [some (.ref a), some (.int (n : Int)), some (.ref R), some (.int ((bsum (bs.take i) : Nat) : Int)), y4, y5, y6] ∧ Same H H4 ∧ RowsAt p R H H4 (matF n (joinE (bs.take i)))) ⟨none, none, none, rfl, sH3, by rw [List.take_zero]; exact ra0⟩ (fun i σ H4 _ ⟨_, _, _, _, s4, _⟩ => hG2 H4 fun b hbm o e => ?_) ?_ ?_
    · have hba : b = a := by simpa using hbm
      subst hba
      rw [sH3 _ _ ha] at e
      rw [← e]
      exact s4 _ _ ha
    · rintro i x σ H4 H4' hi ⟨y4, y5, y6, rfl, s4, ra⟩ ⟨rfl, ex⟩
      obtain ⟨b, eb, ab, wb, rfl, nab, _, hab, hpb⟩ := Paired.getR hp ex
      have hbk := hb b (List.mem_of_getElem? eb)
      have lwb := Paired.length hpb
      obtain ⟨etk, hle⟩ := bsum_take eb
      rw [hn] at hle
      obtain ⟨l, hl⟩ : ∃ l, bs.take i = l := ⟨_, rfl⟩
      rw [hl] at ra hle etk
      obtain ⟨at', hat⟩ : ∃ k, bsum l = k := ⟨_, rfl⟩
      have hrow := blk_row hbk
      obtain ⟨F1, hF1⟩ : ∃ F1 : Nat → Nat → Nat → Int, F1 = fun k x y => if at' ≤ x ∧ x < at' + k ∧ at' ≤ y ∧ y < at' + b.length then ent b (x - at') (y - at') else joinE l x y := ⟨_, rfl⟩
      refine ⟨_, rfl, ab, wb, rfl, .inl (.inl (.inl (s4 _ _ hab))), _, rfl, by omega, by omega, ?_⟩
      rw [hl, hat]
      refine for_it walk_range (fun k σ H5 => ∃ (y5 y6 : Option V), σ = [some (.ref a), some (.int (n : Int)), some (.ref R), some (.int (at' : Int)), some (.ref ab), y5, y6] ∧ Same H H5 ∧ RowsAt p R H H5 (matF n (F1 k))) ⟨y5, y6, rfl, s4, ?_⟩ (fun _ _ _ _ _ => trivial) ?_ ?_
      · have e : matF n (F1 0) = matF n (joinE l) := matF_congr fun x y _ _ => by
          rw [hF1]
          exact if_neg (by omega)
        rw [e]
        exact ra
      · rintro k x σ H5 H5' hk ⟨y5, y6, rfl, s5, ra5⟩ ⟨rfl, rfl⟩
        have hk' : k < b.length := by omega
        have er : b[k]? = some (b.getD k []) := by rw [List.getD_eq_getElem?_getD, List.getElem?_eq_getElem hk']; rfl
        obtain ⟨r, hrr⟩ : ∃ r, b.getD k [] = r := ⟨_, rfl⟩
        rw [hrr] at er
        have lr := hrow r (List.mem_of_getElem? er)
        obtain ⟨vr, evr, qr, rfl, _, _, hqr⟩ := Paired.getL hpb er
        obtain ⟨F2, hF2⟩ : ∃ F2 : Nat → Nat → Nat → Int, F2 = fun j x y => if x = at' + k ∧ at' ≤ y ∧ y < at' + j then ent b k (y - at') else F1 k x y := ⟨_, rfl⟩
        refine ⟨_, rfl, ab, wb, rfl, .inl (.inl (.inl (s5 _ _ hab))), _, rfl, by omega, by omega, ?_⟩
        refine for_it walk_range (fun j σ H6 => ∃ (y6 : Option V), σ = [some (.ref a), some (.int (n : Int)), some (.ref R), some (.int (at' : Int)), some (.ref ab), some (.int (0 + (k : Int))), y6] ∧ Same H H6 ∧ RowsAt p R H H6 (matF n (F2 j))) ⟨y6, rfl, s5, ?_⟩ (fun _ _ _ _ _ => trivial) ?_ ?_
        · have e : matF n (F2 0) = matF n (F1 k) := matF_congr fun x y _ _ => by
            rw [hF2]
            exact if_neg (by omega)
          rw [e]
          exact ra5
        · rintro j x σ H6 H6' hj ⟨y6, rfl, s6, ra6⟩ ⟨rfl, rfl⟩
          have hj' : j < b.length := by omega
          have ez : r[j]? = some (r.getD j 0) := by rw [List.getD_eq_getElem?_getD, List.getElem?_eq_getElem (by omega)]; rfl
          have hx : at' + k < n := by omega
          have hy : at' + j < n := by omega
          obtain ⟨gl, qv, eR, ev, hq, qp, q0, up⟩ := ra6.get (matF_at hx)
          refine ⟨_, rfl, _, rfl, ab, wb, _, _, rfl, rfl, .inl (.inl (s6 _ _ hab)), at_of (j := k) (by omega) evr, _, rfl, qr, _, _, _, rfl, rfl, .inl (.inl (s6 _ _ hqr)), at_of (j := j) (by omega) (ints_at ez), ?_⟩
          refine ⟨_, rfl, _, rfl, _, rfl, _, _, rfl, rfl, R, gl, _, _, rfl, rfl, .inl (.inl eR), at_of (j := at' + k) (by omega) ev, _, rfl, _, rfl, _, _, rfl, rfl, qv, _, _, at' + j, rfl, rfl, hq, ?_, ?_⟩
          · rw [show ((at' : Int) + (0 + (j : Int))) = ((at' + j : Nat) : Int) by omega]
            exact ixN_nat (by rw [List.length_map, List.length_map, List.length_range]; exact hy)
          have ra7 := up (((List.range n).map fun y => F2 j (at' + k) y).set (at' + j) (r.getD j 0))
          rw [List.map_set, matF_set hx hy] at ra7
          have e : matF n (fun x y => if x = at' + k ∧ y = at' + j then r.getD j 0 else F2 j x y) = matF n (F2 (j + 1)) := matF_congr fun x y _ _ => by
            rw [hF2]
            show (if x = at' + k ∧ y = at' + j then r.getD j 0 else if x = at' + k ∧ at' ≤ y ∧ y < at' + j then ent b k (y - at') else F1 k x y) = if x = at' + k ∧ at' ≤ y ∧ y < at' + (j + 1) then ent b k (y - at') else F1 k x y
            by_cases h1 : x = at' + k ∧ y = at' + j
            · rw [if_pos h1, if_pos (by omega), show y - at' = j by omega]
              unfold ent
              rw [hrr]
            · rw [if_neg h1]
              by_cases h2 : x = at' + k ∧ at' ≤ y ∧ y < at' + j
              · rw [if_pos h2, if_pos (by omega)]
              · rw [if_neg h2, if_neg (by omega)]
          rw [e] at ra7
          exact ⟨_, rfl, fun b o hbo => by rw [L2.upd_ne (ne_of_none hbo q0)]; exact s6 _ _ hbo, ra7⟩
        · rintro σ H6 ⟨y6, rfl, s6, ra6⟩
          have e : matF n (F2 wb.length) = matF n (F1 (k + 1)) := matF_congr fun x y _ _ => by
            rw [hF2, hF1, lwb]
            show (if x = at' + k ∧ at' ≤ y ∧ y < at' + b.length then ent b k (y - at') else if at' ≤ x ∧ x < at' + k ∧ at' ≤ y ∧ y < at' + b.length then ent b (x - at') (y - at') else joinE l x y) = if at' ≤ x ∧ x < at' + (k + 1) ∧ at' ≤ y ∧ y < at' + b.length then ent b (x - at') (y - at') else joinE l x y
            by_cases h1 : x = at' + k ∧ at' ≤ y ∧ y < at' + b.length
            · rw [if_pos h1, if_pos (by omega), show x - at' = k by omega]
            · rw [if_neg h1]
              by_cases h2 : at' ≤ x ∧ x < at' + k ∧ at' ≤ y ∧ y < at' + b.length
              · rw [if_pos h2, if_pos (by omega)]
              · rw [if_neg h2, if_neg (by omega)]
          rw [show ((wb.length : Nat) : Int).toNat = wb.length from Int.toNat_natCast _, e] at ra6
          exact ⟨_, _, rfl, s6, ra6⟩
      · rintro σ H5 ⟨y5, y6, rfl, s5, ra5⟩
        have e : matF n (F1 wb.length) = matF n (joinE (bs.take (i + 1))) := matF_congr fun x y _ _ => by
          rw [hF1, etk, joinE_app, hat, lwb]
        rw [show ((wb.length : Nat) : Int).toNat = wb.length from Int.toNat_natCast _, e] at ra5
        refine ⟨_, rfl, _, rfl, ab, wb, rfl, .inl (.inl (.inl (s5 _ _ hab))), _, _, rfl, rfl, ?_⟩
        refine ⟨some (.ref ab), y5, y6, ?_, s5, ra5⟩
        rw [etk, bsum_app, hat, lwb]
        rfl
    · rintro σ H4 ⟨y4, y5, y6, rfl, s4, ra⟩
      rw [List.take_of_length_le (by omega)] at ra
      obtain ⟨gl, eR, nd, fr, hgl⟩ := ra
      refine ⟨_, rfl, q _ _ s4 ⟨R, gl, rfl, hpR.symm, eR, ?_⟩⟩
      unfold joinM
      rw [hn]
      exact L2.Paired.mapP hgl fun _ _ ⟨c, ev, n1, n2, e⟩ => ⟨c, ev, n1, n1, e⟩
theorem cal_law_joined (T : Top K mg) (hN : base.NoSeer) (hT : P.given.tree = none) : Cal P w K mg base 1 "_law_joined" sp_law_joined [] := ⟨⟨_, _, _, [], ok_law_joined T hN hT, T.g_law_joined, T.F_law_joined.kp, T.b_law_joined, .nil⟩⟩

end
end K39
namespace K39
open PySem PySem.Spec PyProof.Rows L2 Gm
open C8 (Cal Met Mak pe_c pe_mt pe_mt0 pe_mk)
section
variable {P : Program} {w : World} {K : PySem.W.Frag} {mg : Str → Option Value} {base : Heap}
/-! ### the joined blocks are a Gram matrix -/
theorem aI1 {b : Int} (h : b = 1 ∨ b = -1) : aI b = 1 ∧ U1 b := by
  rcases h with rfl | rfl <;> exact ⟨by decide, by unfold U1; decide⟩
theorem u10 : U1 0 ∧ aI 0 = 0 := ⟨by unfold U1; decide, by decide⟩
theorem dom1 {a : Int} (h1 : 1 ≤ a) (h4 : a ≤ 4) : Dom 1 [[a]] := by
  have := Dom.one (t := a - 1) (by omega) (by omega)
  rwa [show 1 + (a - 1) = a by omega] at this
theorem dom2 {a b c : Int} (hb : U1 b) (h1 : 1 + aI b ≤ a) (h4 : a ≤ 4 + aI b) (h5 : 1 + aI b ≤ c) (h6 : c ≤ 4 + aI b) : Dom 2 [[a, b], [b, c]] := by
  have := Dom.two (x := b) (t := a - 1 - aI b) (u := c - 1 - aI b) hb (by omega) (by omega) (by omega) (by omega)
  rwa [show 1 + (a - 1 - aI b) + aI b = a by omega, show 1 + (c - 1 - aI b) + aI b = c by omega] at this
theorem dom3 {a b c x y z : Int} (hx : U1 x) (hy : U1 y) (hz : U1 z) (h1 : 1 + (aI x + aI y) ≤ a) (h2 : a ≤ 4 + (aI x + aI y)) (h3 : 1 + (aI x + aI z) ≤ b) (h4 : b ≤ 4 + (aI x + aI z)) (h5 : 1 + (aI y + aI z) ≤ c) (h6 : c ≤ 4 + (aI y + aI z)) :
    Dom 3 [[a, x, y], [x, b, z], [y, z, c]] := by
  have := Dom.three (x := x) (y := y) (z := z) (t := a - 1 - (aI x + aI y)) (u := b - 1 - (aI x + aI z)) (v := c - 1 - (aI y + aI z)) hx hy hz (by omega) (by omega) (by omega) (by omega) (by omega) (by omega)
  rwa [show 1 + (a - 1 - (aI x + aI y)) + (aI x + aI y) = a by omega, show 1 + (b - 1 - (aI x + aI z)) + (aI x + aI z) = b by omega, show 1 + (c - 1 - (aI y + aI z)) + (aI y + aI z) = c by omega] at this
theorem join_dom {bs : List (List (List Int))} (hb : ∀ b ∈ bs, Blk b) (h0 : 0 < bsum bs) (h3 : bsum bs ≤ 3) : Dom (bsum bs) (joinM bs) := by
  obtain ⟨hU0, hA0⟩ := u10
  have len : bs.length ≤ 3 := Nat.le_trans (bs_len hb) h3
  match bs, hb, h0, h3, len with
  | [], _, h0, _, _ => exact absurd h0 (Nat.lt_irrefl _)
  | [b1], hb, _, _, _ =>
    cases hb b1 (List.mem_cons_self ..) with
    | @one a h1 h4 => exact (show Dom 1 [[a]] from dom1 h1 h4)
    | @two a b c h1 h2 h5 h6 h7 =>
      obtain ⟨e, u⟩ := aI1 h5
      exact (show Dom 2 [[a, b], [b, c]] from dom2 u (by omega) (by omega) (by omega) (by omega))
  | [b1, b2], hb, _, h3, _ =>
    cases hb b1 (List.mem_cons_self ..) with
    | @one a h1 h4 =>
      cases hb b2 (List.mem_cons_of_mem _ (List.mem_cons_self ..)) with
      | @one a' h1' h4' => exact (show Dom 2 [[a, 0], [0, a']] from dom2 hU0 (by omega) (by omega) (by omega) (by omega))
      | @two a' b c h1' h2 h5 h6 h7 =>
        obtain ⟨e, u⟩ := aI1 h5
        exact (show Dom 3 [[a, 0, 0], [0, a', b], [0, b, c]] from dom3 hU0 hU0 u (by omega) (by omega) (by omega) (by omega) (by omega) (by omega))
    | @two a b c h1 h2 h5 h6 h7 =>
      obtain ⟨e, u⟩ := aI1 h5
      cases hb b2 (List.mem_cons_of_mem _ (List.mem_cons_self ..)) with
      | @one a' h1' h4' => exact (show Dom 3 [[a, b, 0], [b, c, 0], [0, 0, a']] from dom3 u hU0 hU0 (by omega) (by omega) (by omega) (by omega) (by omega) (by omega))
      | @two a' b' c' h1' h2' h5' h6' h7' => exact absurd h3 (show ¬ 4 ≤ 3 by decide)
  | [b1, b2, b3], hb, _, h3, _ =>
    cases hb b1 (List.mem_cons_self ..) with
    | @one a h1 h4 =>
      cases hb b2 (List.mem_cons_of_mem _ (List.mem_cons_self ..)) with
      | @one a' h1' h4' =>
        cases hb b3 (List.mem_cons_of_mem _ (List.mem_cons_of_mem _ (List.mem_cons_self ..))) with
        | @one c h1'' h4'' => exact (show Dom 3 [[a, 0, 0], [0, a', 0], [0, 0, c]] from dom3 hU0 hU0 hU0 (by omega) (by omega) (by omega) (by omega) (by omega) (by omega))
        | @two _ _ _ _ _ _ _ _ => exact absurd h3 (show ¬ 4 ≤ 3 by decide)
      | @two _ _ _ _ _ _ _ _ =>
        have := blk_len (hb b3 (List.mem_cons_of_mem _ (List.mem_cons_of_mem _ (List.mem_cons_self ..))))
        have h3' : 1 + (2 + (b3.length + 0)) ≤ 3 := h3
        omega
    | @two _ _ _ _ _ _ _ _ =>
      have h2 := blk_len (hb b2 (List.mem_cons_of_mem _ (List.mem_cons_self ..)))
      have := blk_len (hb b3 (List.mem_cons_of_mem _ (List.mem_cons_of_mem _ (List.mem_cons_self ..))))
      have h3' : 2 + (b2.length + (b3.length + 0)) ≤ 3 := h3
      omega
  | _ :: _ :: _ :: _ :: _, _, _, _, len => exact absurd len (by simp)
def antiM (n : Nat) : List (List Int) := matF n fun i j => if i + j = n - 1 then 1 else 0
theorem uni_anti {n : Nat} (h0 : 0 < n) (h3 : n ≤ 3) : Uni n 3 (antiM n) := by
  rcases n123 h0 h3 with rfl | rfl | rfl
  · exact ⟨⟨by decide, by decide⟩, by decide, by decide⟩
  · exact ⟨⟨by decide, by decide⟩, by decide, by decide⟩
  · exact ⟨⟨by decide, by decide⟩, by decide, by decide⟩
def sp_law_basis : Sp := fun vs H Q _ => ∃ (p : Addr) (g : V) (G : List (List Int)) (n : Nat), vs = [.ref p, g] ∧ StAt H p ∧ LAs p H g G ∧ Dom n G ∧ ∀ v U H', Off p H H' → StAt H' p → LAs p H' v U → Uni n 3 U → Q v H'
theorem ok_law_basis (T : Top K mg) (hN : base.NoSeer) (hT : P.given.tree = none) : FnOk P w K mg base CX0 3 T.a_law_basis T.d_law_basis ["state", "gram"] sp_law_basis := by
  refine T.F_law_basis.ok sc_law_basis (fun vs H Q E h => ?_) (fun cdv A outer s H vs Q E hr h => ?_)
  · obtain ⟨p, g, G, n, rfl, _⟩ := h
    rfl
  · obtain ⟨p, g, G, n, rfl, st, hg, D, q⟩ := h
    have hn := D.n3
    obtain ⟨ag, wg, rfl, nag, hag, hpg⟩ := id hg
    have lwg : wg.length = n := (Paired.length hpg).trans D.gram.sq.len
    refine ⟨_, (pss_cons (ps_set (i := 2) sc_law_basis.nd rfl (by first | exact .inl rfl | exact .inr rfl) (pe_callB (lenS K rfl) (by rfl) T.z_len (by decide +kernel) (pa_cons (pv 1) pa_nil)))
      (pss_cons (ps_set (i := 3) sc_law_basis.nd rfl (by first | exact .inl rfl | exact .inr rfl) (pe_c (cal_law_unimodular T hN hT) hr (by decide) (by rfl) (pa_cons (pv 0) (pa_cons (pv 2) pa_nil))))
      (pss_cons (ps_set (i := 4) sc_law_basis.nd rfl (by first | exact .inl rfl | exact .inr rfl) (pe_c (cal_law_moved T hN hT) hr (by decide) (by rfl) (pa_cons (pv 1) (pa_cons (pv 3) pa_nil))))
      (pss_cons (ps_if (pt_cmpR op_gt (pe_callB (maxK K rfl rfl) (by rfl) T.z_max (by decide +kernel) (pa_cons (pe_lc (own := [("k", 5)]) (g := (gName 5)) (by rfl) sc_law_basis.nd (pi_range1 (by rfl) T.z_range (pa_cons (pv 2) pa_nil)) ((by show BlkOk ["state", "gram", "size", "rows", "moved", "k", "i", "j"] (defScope s_law_basis) _ _; exact blkOk_by (by decide +kernel))) (fun _ _ _ _ _ => (pg_name (i := 5) sc_law_basis.nd rfl (by first | exact .inl rfl | exact .inr rfl))) (fun _ _ _ _ _ => pts_nil) (fun _ _ _ _ _ => (pe_ix (ixL K rfl) (pe_ix (ixL K rfl) (pv 4) (pv 5) (fun _ _ => rfl)) (pv 5) (fun _ _ => rfl)))) pa_nil)) (pe_ix (ixL K rfl) (pe_lst (pa_cons pe_int (pa_cons pe_int (pa_cons pe_int pa_nil)))) (pe_op op_sub (pv 2) pe_int) (fun _ _ => rfl)) (nomark _))
      (pss_one (ps_ret (pe_lc (own := [("i", 6)]) (g := (gName 6)) (by rfl) sc_law_basis.nd (pi_range1 (by rfl) T.z_range (pa_cons (pv 2) pa_nil)) ((by show BlkOk ["state", "gram", "size", "rows", "moved", "k", "i", "j"] (defScope s_law_basis) _ _; exact blkOk_by (by decide +kernel))) (fun _ _ _ _ _ => (pg_name (i := 6) sc_law_basis.nd rfl (by first | exact .inl rfl | exact .inr rfl))) (fun _ _ _ _ _ => pts_nil) (fun _ _ _ _ _ => (pe_lc (own := [("j", 7)]) (g := (gName 7)) (by rfl) sc_law_basis.nd (pi_range1 (by rfl) T.z_range (pa_cons (pv 2) pa_nil)) ((by show BlkOk ["state", "gram", "size", "rows", "moved", "k", "i", "j"] (relS _ (defScope s_law_basis)) _ _; exact blkOk_by (by decide +kernel))) (fun _ _ _ _ _ => (pg_name (i := 7) sc_law_basis.nd rfl (by first | exact .inl rfl | exact .inr rfl))) (fun _ _ _ _ _ => pts_nil) (fun _ _ _ _ _ => (pe_callTy (call_int1) (by rfl) T.z_int (by decide +kernel) (pa_cons (pe_cmpR op_eq (pe_op op_add (pv 6) (pv 7)) (pe_op op_sub (pv 2) pe_int) (nomark _)) pa_nil))))))))
      pss_nil)
      (pss_one (ps_ret (pv 3))))))), ?_⟩
    refine ⟨_, rfl, ag, wg, rfl, .inl (.inl (.inl hag)), ?_⟩
    rw [lwg]
    refine ⟨_, rfl, _, rfl, p, n, rfl, st, hn.1, hn.2, fun v U H1 o1 st1 hv hU => ?_⟩
    have hg1 := hg.offp o1
    refine ⟨_, rfl, _, rfl, .ref ag, v, G, U, n, 10, rfl, hg1.rows, hv.rows, D.gram.sq, fun r hr => ⟨hU.sz.row r hr, fun z hz => ?_⟩, by omega, by rw [hU.sz.len]; omega, by decide, ?_⟩
    · have := l1_at hz
      have := hU.l1 r hr
      show z.natAbs < 256
      omega
    intro mv H2 s2 hm
    obtain ⟨am, wm, rfl, ham, hpm⟩ := id hm
    have lUn := hU.sz.len
    have sqm := mov_sq D (V := U) fun r hr => ⟨hU.sz.row r hr, hU.l1 r hr⟩
    rw [lUn] at sqm
    obtain ⟨M, hM⟩ : ∃ M, movM G U n = M := ⟨_, rfl⟩
    rw [hM] at sqm hpm
    have st2 := st1.same s2
    have hv2 := hv.same s2
    have o2 := Off.trans o1 (Same.off s2)
    refine ⟨_, rfl, (n : Int), rfl, by omega, by omega, fun D1 hD1 => ?_⟩
    rw [show ((n : Int)).toNat = n from Int.toNat_natCast _]
    refine lc_all walk_range hD1 (by omega) (fun _ _ => trivial) (fun k v _ => ∃ z, ((List.range n).map fun k => ent M k k)[k]? = some z ∧ v = .int z) (fun _ _ _ _ _ _ _ h => h) ?_ gm_name ?_
    · rintro k x H3 H3' acc Ko hk s3 eD ⟨rfl, rfl⟩ kk
      obtain ⟨r, er, erk, _⟩ := ent_get sqm hk hk
      obtain ⟨vr, evr, qr, rfl, hqr⟩ := Paired.getL hpm er
      refine ⟨rfl, ?_⟩
      refine ⟨_, rfl, _, rfl, am, wm, _, _, rfl, rfl, .inl (.inl (s3 _ _ ham)), at_of (j := k) (by omega) evr, _, rfl, qr, _, _, _, rfl, rfl, .inl (.inl (s3 _ _ hqr)), at_of (j := k) (by omega) (ints_at erk), ?_⟩
      exact kk _ _ (Same.refl _) ⟨ent M k k, by rw [List.getElem?_map, List.getElem?_range hk]; rfl, rfl⟩
    intro H3 l3 s3 eD hpl
    have el := ints_list (by rw [List.length_map, List.length_range]) hpl
    subst el
    refine ⟨D1, _, rfl, .inl (.inl eD), by rw [List.length_map, List.length_range]; exact hn.1, fun mx _ _ => ?_⟩
    obtain ⟨lim, hlim⟩ : ∃ lim : Int, [V.int 20, V.int 12, V.int 6][n - 1]? = some (.int lim) := by
      rcases n123 hn.1 hn.2 with rfl | rfl | rfl
      · exact ⟨20, rfl⟩
      · exact ⟨12, rfl⟩
      · exact ⟨6, rfl⟩
    refine ⟨by show 3 ≤ sizeLine; decide, fun q1 nq1 => ?_⟩
    have s4 := same_upd (o := .lst [V.int 20, V.int 12, V.int 6]) nq1
    have eq1 : (upd H3 q1 (.lst [V.int 20, V.int 12, V.int 6])) q1 = some (.lst [V.int 20, V.int 12, V.int 6]) := upd_same
    generalize upd H3 q1 (.lst [V.int 20, V.int 12, V.int 6]) = H4 at s4 eq1 ⊢
    refine ⟨_, rfl, _, _, rfl, rfl, q1, _, _, _, rfl, rfl, .inl (.inl eq1), at_of (j := n - 1) (by omega) hlim, _, _, rfl, rfl, _, rfl, ?_⟩
    have s24 := s3.trans s4
    have st4 := st2.same s24
    have o4 := Off.trans o2 (Same.off s24)
    by_cases hcmp : lim < mx
    · rw [decide_eq_true hcmp]
      refine iteT ?_
      refine ⟨_, rfl, (n : Int), rfl, by omega, by omega, fun R nR => ?_⟩
      rw [show ((n : Int)).toNat = n from Int.toNat_natCast _]
      have hpR := st4.ne nR
      refine lc_all walk_range nR (by omega) (fun _ _ => trivial) (fun i v H5 => ∃ r, (antiM n)[i]? = some r ∧ ∃ q, v = V.ref q ∧ q ≠ R ∧ H5 q = some (.lst (r.map V.int)) ∧ H4 q = none) (fun j v H7 H8 acc e o ⟨r, er, q, ev, ne, eh, fr⟩ => ⟨r, er, q, ev, ne, o _ _ ne eh, fr⟩) ?_ gm_name ?_
      · rintro i x H5 H5' acc Ko hi s5 eD ⟨rfl, rfl⟩ kc
        refine ⟨rfl, ?_⟩
        refine ⟨_, rfl, (n : Int), rfl, by omega, by omega, fun D2 nD2 => ?_⟩
        rw [show ((n : Int)).toNat = n from Int.toNat_natCast _]
        refine lc_all walk_range nD2 (by omega) (fun _ _ => trivial) (fun j v _ => ∃ z, ((List.range n).map fun j => if i + j = n - 1 then (1 : Int) else 0)[j]? = some z ∧ v = .int z) (fun _ _ _ _ _ _ _ h => h) ?_ gm_name ?_
        · rintro j y H6 H6' acc2 Ko2 hj s6 eD2 ⟨rfl, rfl⟩ k2
          refine ⟨rfl, ?_⟩
          refine ⟨_, rfl, _, rfl, _, _, rfl, rfl, _, rfl, _, _, rfl, rfl, rfl, .inr ⟨_, rfl, ?_⟩⟩
          refine k2 _ _ (Same.refl _) ⟨if i + j = n - 1 then 1 else 0, by rw [List.getElem?_map, List.getElem?_range hj]; rfl, ?_⟩
          by_cases h : i + j = n - 1
          · rw [if_pos h, if_pos (decide_eq_true (congrArg V.int (by omega)))]
          · rw [if_neg h, if_neg (by rw [decide_eq_false (fun z => h (by have := V.int.inj z; omega))]; decide)]
        · intro H6 l6 s6 eD6 hp6
          have el := ints_list (by rw [List.length_map, List.length_range]) hp6
          subst el
          have nDR : D2 ≠ R := fun e => by rw [e, eD] at nD2; cases nD2
          have nDH : H4 D2 = none := by
            cases hh : H4 D2 with
            | none => rfl
            | some o => rw [s5 _ _ hh] at nD2; cases nD2
          exact kc _ _ s6 ⟨_, matF_at hi, D2, rfl, nDR, eD6, nDH⟩
      intro H5 l s5 eD hpl
      have frp : ∀ q, H4 q = none → q ≠ p := fun q fr e => by
        obtain ⟨_, _, es, _⟩ := st4
        rw [e, es] at fr
        cases fr
      have hp5 : Paired (LA p p H5) l (antiM n) := L2.Paired.mapP (paired_at (F := fun v r => ∃ q, v = V.ref q ∧ q ≠ R ∧ H5 q = some (.lst (r.map V.int)) ∧ H4 q = none) (m := antiM n) (by unfold antiM matF; rw [List.length_map, List.length_range]) hpl) fun _ _ ⟨q, ev, ne, eh, fr⟩ => ⟨q, ev, frp q fr, frp q fr, eh⟩
      exact q (.ref R) (antiM n) H5 (Off.trans o4 (Same.off s5)) (st4.same s5) ⟨R, l, rfl, hpR.symm, eD, hp5⟩ (uni_anti hn.1 hn.2)
    · rw [decide_eq_false hcmp]
      refine iteF ?_
      exact ⟨_, rfl, q v U H4 o4 st4 (hv2.same s24) hU⟩
theorem cal_law_basis (T : Top K mg) (hN : base.NoSeer) (hT : P.given.tree = none) : Cal P w K mg base 3 "_law_basis" sp_law_basis [] := ⟨⟨_, _, _, [], ok_law_basis T hN hT, T.g_law_basis, T.F_law_basis.kp, T.b_law_basis, .nil⟩⟩
theorem unitM_len {n : Nat} : (unitM n).length = n := by unfold unitM; rw [List.length_map, List.length_range]

end
end K39
namespace K39
open PySem PySem.Spec PyProof.Rows L2 Gm
open C8 (Cal Met Mak pe_c pe_mt pe_mt0 pe_mk)
section
variable {P : Program} {w : World} {K : PySem.W.Frag} {mg : Str → Option Value} {base : Heap}
/-! ### spans and unit rows -/
theorem spn_comb {R : List (List Int)} {g : Nat → Nat → Int} {c : Nat → Int} : ∀ k, (∀ b, b < k → Spn R (g b)) → Spn R (fun l => sumF k fun b => c b * g b l)
  | 0, _ => Spn.zero R
  | k + 1, h => by
    have h1 := spn_comb (c := c) k fun b hb => h b (by omega)
    have h2 := (h k (by omega)).smul (c k)
    exact (h1.add h2).cong fun l => rfl
theorem spn_out {R : List (List Int)} {f : Nat → Int} (h : Spn R f) : ∃ c : Nat → Int, ∀ l, f l = sumF R.length fun j => c j * fn (R.getD j []) l := by
  have key : ∀ (R Q : List (List Int)) (f : Nat → Int), Spn R f → ∃ c : Nat → Int, ∀ l, f l = sumF R.length fun j => c j * fn (R.getD j []) l := fun R => by
    induction R with
    | nil => intro Q f h; exact ⟨fun _ => 0, h⟩
    | cons r R ih =>
      intro Q f ⟨a, h⟩
      obtain ⟨c, hc⟩ := ih Q _ h
      refine ⟨fun j => match j with | 0 => a | j + 1 => c j, fun l => ?_⟩
      have e : ∀ (n : Nat) (F : Nat → Int), sumF (n + 1) F = F 0 + sumF n fun j => F (j + 1) := fun n F => by
        induction n with
        | zero => show 0 + F 0 = F 0 + 0; omega
        | succ n ih2 =>
          show sumF (n + 1) F + F (n + 1) = F 0 + ((sumF n fun j => F (j + 1)) + F (n + 1))
          rw [ih2]
          omega
      rw [List.length_cons, e]
      have h1 : f l - a * r.getD l 0 = _ := hc l
      show f l = a * r.getD l 0 + sumF R.length fun j => c j * fn (R.getD j []) l
      omega
  exact key R R f h
theorem unit_get {k i j : Nat} (hi : i < k) : fn (unitU k i) j = if i = j then 1 else 0 := by
  show (unitU k i).getD j 0 = _
  unfold unitU
  rw [List.getD_eq_getElem?_getD, List.getElem?_map]
  by_cases hj : j < k
  · rw [List.getElem?_range hj]
    rfl
  · rw [List.getElem?_eq_none (by rw [List.length_range]; omega), if_neg (by omega)]
    rfl
theorem spn_units {k : Nat} {R : List (List Int)} (h : ∀ i, i < k → Spn R (fn (unitU k i))) {f : Nat → Int} (hf : ∀ j, k ≤ j → f j = 0) : Spn R f := by
  have h1 := spn_comb (c := f) (g := fun b => fn (unitU k b)) k h
  refine h1.cong fun l => ?_
  have key : ∀ c, c ≤ k → (sumF c fun b => f b * fn (unitU k b) l) = if l < c then f l else 0 := fun c => by
    induction c with
    | zero => intro _; rfl
    | succ c ih =>
      intro hc
      show (sumF c fun b => f b * fn (unitU k b) l) + f c * fn (unitU k c) l = _
      rw [ih (by omega), unit_get (by omega)]
      by_cases h1 : c = l
      · subst h1
        rw [if_neg (by omega), if_pos rfl, if_pos (by omega)]
        omega
      · rw [if_neg h1, Int.mul_zero]
        by_cases h2 : l < c
        · rw [if_pos h2, if_pos (by omega)]
          omega
        · rw [if_neg h2, if_neg (by omega)]
          rfl
  show (sumF k fun b => f b * fn (unitU k b) l) = f l
  rw [key k (Nat.le_refl _)]
  split
  · rfl
  · exact (hf l (by omega)).symm
def Full (k : Nat) (R : List (List Int)) : Prop := ∀ i, i < k → Spn R (fn (unitU k i))

end
end K39
namespace K39
open PySem PySem.Spec PyProof.Rows L2 Gm
open C8 (Cal Met Mak pe_c pe_mt pe_mt0 pe_mk)
section
variable {P : Program} {w : World} {K : PySem.W.Frag} {mg : Str → Option Value} {base : Heap}
theorem sumF_shift (n : Nat) (F : Nat → Int) : sumF (n + 1) F = F 0 + sumF n fun j => F (j + 1) := by
  induction n with
  | zero => show 0 + F 0 = F 0 + 0; omega
  | succ n ih2 =>
    show sumF (n + 1) F + F (n + 1) = F 0 + ((sumF n fun j => F (j + 1)) + F (n + 1))
    rw [ih2]
    omega
def dotI' (x y : List Int) : Int := dotI x y
theorem dot_sum : ∀ {n : Nat} {x y : List Int}, x.length = n → y.length = n → dotI x y = sumF n fun a => fn x a * fn y a
  | 0, [], [], _, _ => rfl
  | n + 1, a :: x, b :: y, hx, hy => by
    rw [sumF_shift, show dotI (a :: x) (b :: y) = a * b + dotI x y from rfl, dot_sum (n := n) (by simpa using hx) (by simpa using hy)]
    rfl
theorem row_ent {M : List (List Int)} {l j : Nat} : ent M l j = fn (M.getD l []) j := rfl
theorem map_ent {M : List (List Int)} {l j : Nat} : (M.map fun r => r.getD j 0).getD l 0 = ent M l j := by
  unfold ent
  rw [List.getD_eq_getElem?_getD, List.getElem?_map, List.getD_eq_getElem?_getD (l := M)]
  cases M[l]? <;> rfl
theorem tr_fn {M : List (List Int)} {n j l : Nat} (hj : j < n) : fn ((transp M n).getD j []) l = ent M l j := by
  show ((transp M n).getD j []).getD l 0 = _
  rw [transp_get hj, map_ent]
theorem tr_row {M : List (List Int)} {n j : Nat} (hj : j < n) : (transp M n).getD j [] ∈ transp M n := by
  have h : j < (transp M n).length := by rw [transp_len]; exact hj
  rw [List.getD_eq_getElem?_getD, List.getElem?_eq_getElem h]
  exact List.getElem_mem h
theorem mul_ent {A B : List (List Int)} {n w l i : Nat} (hl : l < A.length) (hi : i < w) (hA : ∀ r ∈ A, r.length = n) (hB : B.length = n) : ent (mulM A B w) l i = sumF n fun a => ent A l a * ent B a i := by
  have eA : A[l]? = some (A.getD l []) := by rw [List.getD_eq_getElem?_getD, List.getElem?_eq_getElem hl]; rfl
  have e1 : (mulM A B w).getD l [] = (transp B w).map fun c => dotI (A.getD l []) c := by
    unfold mulM
    rw [List.getD_eq_getElem?_getD, List.getElem?_map, eA]
    rfl
  have hi' : i < (transp B w).length := by rw [transp_len]; exact hi
  have eB : (transp B w)[i]? = some ((transp B w).getD i []) := by rw [List.getD_eq_getElem?_getD, List.getElem?_eq_getElem hi']; rfl
  have lB : ((transp B w).getD i []).length = n := by rw [transp_row _ (tr_row hi), hB]
  unfold ent
  rw [e1, List.getD_eq_getElem?_getD, List.getElem?_map, eB]
  show dotI (A.getD l []) ((transp B w).getD i []) = _
  rw [dot_sum (hA _ (List.mem_of_getElem? eA)) lB]
  exact sumF_congr fun a _ => by rw [tr_fn hi]; rfl
theorem scal_ent {n l i : Nat} {d : Int} (hl : l < n) (hi : i < n) : ent (scalM n d) l i = d * (if l = i then 1 else 0) := by
  unfold ent scalM
  rw [List.getD_eq_getElem?_getD (l := (List.range n).map _), List.getElem?_map, List.getElem?_range hl]
  show ((List.range n).map fun k => d * (if l = k then 1 else 0)).getD i 0 = _
  rw [List.getD_eq_getElem?_getD, List.getElem?_map, List.getElem?_range hi]
  rfl
theorem due_len' (n : Nat) (m : List (List Int)) : (dueM n m).length = n := by
  unfold dueM
  rw [List.length_map, List.length_range]
/-- the sums by the adjugate -/
theorem due_sum {n : Nat} {M : List (List Int)} (h4 : n ≤ 4) (hs : Sz n M) {l i : Nat} (hl : l < n) (hi : i < n) : (sumF n fun a => ent (dueM n M) a i * ent M l a) = detL n M * (if l = i then 1 else 0) := by
  have h1 := mul_ent (w := n) (l := l) (i := i) (by rw [hs.len]; exact hl) hi hs.row (due_len' n M)
  rw [mul_due h4 hs, scal_ent hl hi] at h1
  rw [h1]
  exact sumF_congr fun a _ => Int.mul_comm ..
theorem inv_sum {n : Nat} {M : List (List Int)} (h4 : n ≤ 4) (hs : Sz n M) (hd : (detL n M).natAbs = 1) : ∃ Y : Nat → Nat → Int, ∀ l i, l < n → i < n → (sumF n fun a => Y a i * ent M l a) = if l = i then 1 else 0 := by
  refine ⟨fun a i => detL n M * ent (dueM n M) a i, fun l i hl hi => ?_⟩
  rw [sumF_congr (g := fun a => detL n M * (ent (dueM n M) a i * ent M l a)) fun a _ => Int.mul_assoc .., sumF_mul, due_sum h4 hs hl hi, ← Int.mul_assoc]
  rcases (show detL n M = 1 ∨ detL n M = -1 by omega) with e | e <;> rw [e] <;> split <;> rfl
theorem take_ent {W : List (List Int)} {k l j : Nat} : ent (W.take k) l j = if l < k then ent W l j else 0 := by
  unfold ent
  rw [List.getD_eq_getElem?_getD (l := W.take k), List.getElem?_take]
  by_cases h : l < k
  · rw [if_pos h, if_pos h, List.getD_eq_getElem?_getD (l := W)]
  · rw [if_neg h, if_neg h]
    rfl
/-- P2 -/
theorem full_take {n k : Nat} {W : List (List Int)} (h4 : n ≤ 4) (hs : Sz n W) (hd : (detL n W).natAbs = 1) (hk : k ≤ n) : Full k (transp (W.take k) n) := fun i hi => by
  obtain ⟨Y, hY⟩ := inv_sum h4 hs hd
  have h := spn_comb (R := transp (W.take k) n) (g := fun b => fn ((transp (W.take k) n).getD b [])) (c := fun b => Y b i) n fun b hb => Spn.mem (tr_row hb)
  refine h.cong fun l => ?_
  show (sumF n fun b => Y b i * fn ((transp (W.take k) n).getD b []) l) = _
  rw [sumF_congr (g := fun b => Y b i * (if l < k then ent W l b else 0)) fun b hb => by rw [tr_fn hb, take_ent], unit_get hi]
  by_cases hl : l < k
  · rw [sumF_congr (g := fun b => Y b i * ent W l b) fun b _ => by rw [if_pos hl], hY l i (by omega) (by omega)]
    by_cases e : l = i
    · rw [if_pos e, if_pos e.symm]
    · rw [if_neg e, if_neg fun z => e z.symm]
  · rw [sumF_congr (g := fun _ => 0) fun b _ => by rw [if_neg hl, Int.mul_zero], sumF_zero, if_neg (by omega)]
theorem mat_ext {k : Nat} {A B : List (List Int)} (hA : Sz k A) (hB : Sz k B) (h : ∀ l i, l < k → i < k → ent A l i = ent B l i) : A = B := by
  apply List.ext_getElem
  · rw [hA.len, hB.len]
  · intro l h1 h2
    have hl : l < k := by rw [hA.len] at h1; exact h1
    refine list_ext (w := k) (hA.row _ (List.getElem_mem h1)) (hB.row _ (List.getElem_mem h2)) fun i => ?_
    have e1 : A[l].getD i 0 = ent A l i := by
      unfold ent
      rw [List.getD_eq_getElem?_getD (l := A), List.getElem?_eq_getElem h1]
      rfl
    have e2 : B[l].getD i 0 = ent B l i := by
      unfold ent
      rw [List.getD_eq_getElem?_getD (l := B), List.getElem?_eq_getElem h2]
      rfl
    by_cases hi : i < k
    · rw [e1, e2, h l i hl hi]
    · rw [getD_none (by rw [hA.row _ (List.getElem_mem h1)]; omega), getD_none (by rw [hB.row _ (List.getElem_mem h2)]; omega)]
theorem unitM_sz (k : Nat) : Sz k (unitM k) := ⟨unitM_len, fun r hr => by
  obtain ⟨i, _, rfl⟩ := List.mem_map.mp hr
  exact unitU_len⟩
theorem unitM_ent {k l i : Nat} (hl : l < k) : ent (unitM k) l i = fn (unitU k l) i := by
  unfold ent unitM
  rw [List.getD_eq_getElem?_getD (l := (List.range k).map _), List.getElem?_map, List.getElem?_range hl]
  rfl
/-- P3 -/
theorem full_mul {n k : Nat} {W X : List (List Int)} (h4 : n ≤ 4) (hW : Full k (transp W n)) (lW : W.length = k) (rW : ∀ r ∈ W, r.length = n) (hk : k ≤ 4) (hX : Sz k X) : Full k (transp (mulM X W n) n) ↔ (detL k X).natAbs = 1 := by
  have lm : (mulM X W n).length = k := by rw [mulM_len, hX.len]
  have eR : ∀ j l, j < n → fn ((transp (mulM X W n) n).getD j []) l = if l < k then sumF k fun a => ent X l a * ent W a j else 0 := fun j l hj => by
    rw [tr_fn hj]
    by_cases hl : l < k
    · rw [if_pos hl, mul_ent (by rw [hX.len]; exact hl) hj hX.row lW]
    · rw [if_neg hl]
      unfold ent
      rw [List.getD_eq_getElem?_getD (l := mulM X W n), List.getElem?_eq_none (by omega)]
      rfl
  constructor
  · intro hF
    -- each unit vector is an image
    have him : ∀ f, Spn (transp (mulM X W n) n) f → ∃ y : Nat → Int, ∀ l, l < k → f l = sumF k fun a => ent X l a * y a := fun f hf => by
      refine Spn.prop (fun f => ∃ y : Nat → Int, ∀ l, l < k → f l = sumF k fun a => ent X l a * y a) ⟨fun _ => 0, fun l _ => ?_⟩ ?_ (fun r hr => ?_) hf
      · rw [sumF_congr (g := fun _ => 0) fun a _ => Int.mul_zero _, sumF_zero]
      · rintro x y a ⟨u, hu⟩ ⟨v, hv⟩
        refine ⟨fun b => u b + a * v b, fun l hl => ?_⟩
        show x l + a * y l = _
        rw [hu l hl, hv l hl, ← sumF_lin]
        exact sumF_congr fun b _ => by grind
      · obtain ⟨j, ej⟩ := List.getElem?_of_mem hr
        have hj : j < n := by
          have := (List.getElem?_eq_some_iff.mp ej).1
          rwa [transp_len] at this
        have er : r = (transp (mulM X W n) n).getD j [] := by rw [List.getD_eq_getElem?_getD, ej]; rfl
        refine ⟨fun a => ent W a j, fun l hl => ?_⟩
        show fn r l = _
        rw [er, eR j l hj, if_pos hl]
    have hy : ∀ i, ∃ y : Nat → Int, i < k → ∀ l, l < k → fn (unitU k i) l = sumF k fun a => ent X l a * y a := fun i => by
      by_cases hi : i < k
      · obtain ⟨y, hy⟩ := him _ (hF i hi)
        exact ⟨y, fun _ => hy⟩
      · exact ⟨fun _ => 0, fun h => absurd h hi⟩
    obtain ⟨y, hy⟩ := Classical.axiomOfChoice hy
    -- X times these is the unit matrix
    have hYs : Sz k ((List.range k).map fun a => (List.range k).map fun i => y i a) := ⟨by rw [List.length_map, List.length_range], fun r hr => by
      obtain ⟨a, _, rfl⟩ := List.mem_map.mp hr
      rw [List.length_map, List.length_range]⟩
    obtain ⟨Y, hYe⟩ : ∃ Y, (List.range k).map (fun a => (List.range k).map fun i => y i a) = Y := ⟨_, rfl⟩
    rw [hYe] at hYs
    have hYent : ∀ a i, a < k → i < k → ent Y a i = y i a := fun a i ha hi => by
      rw [← hYe]
      unfold ent
      rw [List.getD_eq_getElem?_getD (l := (List.range k).map _), List.getElem?_map, List.getElem?_range ha]
      show ((List.range k).map fun i => y i a).getD i 0 = _
      rw [List.getD_eq_getElem?_getD, List.getElem?_map, List.getElem?_range hi]
      rfl
    have hone : mulM X Y k = unitM k := mat_ext ⟨by rw [mulM_len, hX.len], mulM_row⟩ (unitM_sz k) fun l i hl hi => by
      rw [unitM_ent hl, unit_get hl, mul_ent (by rw [hX.len]; exact hl) hi hX.row hYs.len, sumF_congr (g := fun a => ent X l a * y i a) fun a ha => by rw [hYent a i ha hi], ← hy i hi l hl, unit_get hi]
      by_cases e : l = i
      · rw [if_pos e, if_pos e.symm]
      · rw [if_neg e, if_neg fun z => e z.symm]
    have hdet := det_mul hk hX hYs
    rw [hone] at hdet
    have h1 : detL k (unitM k) = 1 := by
      rcases (show k = 0 ∨ k = 1 ∨ k = 2 ∨ k = 3 ∨ k = 4 by omega) with rfl | rfl | rfl | rfl | rfl <;> decide
    rw [h1] at hdet
    have h2 : (detL k X).natAbs * (detL k Y).natAbs = 1 := by rw [← Int.natAbs_mul, ← hdet]; rfl
    exact Nat.dvd_one.mp ⟨_, h2.symm⟩
  · intro hd i hi
    obtain ⟨Y, hY⟩ := inv_sum hk hX hd
    -- the image of a span
    have him : ∀ f, Spn (transp W n) f → Spn (transp (mulM X W n) n) (fun l => if l < k then sumF k fun a => ent X l a * f a else 0) := fun f hf => by
      refine Spn.prop (fun f => Spn (transp (mulM X W n) n) (fun l => if l < k then sumF k fun a => ent X l a * f a else 0)) ?_ ?_ (fun r hr => ?_) hf
      · refine (Spn.zero _).cong fun l => ?_
        rw [sumF_congr (g := fun _ => 0) fun a _ => Int.mul_zero _, sumF_zero]
        split <;> rfl
      · intro x y a hx hy
        refine (hx.add (hy.smul a)).cong fun l => ?_
        by_cases hl : l < k
        · rw [if_pos hl, if_pos hl, if_pos hl, ← sumF_lin]
          exact sumF_congr fun b _ => by grind
        · rw [if_neg hl, if_neg hl, if_neg hl]
          omega
      · obtain ⟨j, ej⟩ := List.getElem?_of_mem hr
        have hj : j < n := by
          have := (List.getElem?_eq_some_iff.mp ej).1
          rwa [transp_len] at this
        have er : r = (transp W n).getD j [] := by rw [List.getD_eq_getElem?_getD, ej]; rfl
        refine (Spn.mem (tr_row (M := mulM X W n) hj)).cong fun l => ?_
        show fn ((transp (mulM X W n) n).getD j []) l = _
        rw [eR j l hj]
        by_cases hl : l < k
        · rw [if_pos hl, if_pos hl]
          exact sumF_congr fun a _ => by rw [er]; show _ = ent X l a * fn ((transp W n).getD j []) a; rw [tr_fn hj]
        · rw [if_neg hl, if_neg hl]
    have hyi : Spn (transp W n) (fun a => if a < k then Y a i else 0) := spn_units hW fun j hj => by rw [if_neg (by omega)]
    refine (him _ hyi).cong fun l => ?_
    rw [unit_get hi]
    by_cases hl : l < k
    · rw [if_pos hl, sumF_congr (g := fun a => Y a i * ent X l a) fun a ha => by rw [if_pos ha, Int.mul_comm], hY l i hl hi]
      by_cases e : l = i
      · rw [if_pos e, if_pos e.symm]
      · rw [if_neg e, if_neg fun z => e z.symm]
    · rw [if_neg hl, if_neg (by omega)]

end
end K39
namespace K39
open PySem PySem.Spec PyProof.Rows L2 Gm
open C8 (Cal Met Mak pe_c pe_mt pe_mt0 pe_mk)
section
variable {P : Program} {w : World} {K : PySem.W.Frag} {mg : Str → Option Value} {base : Heap}
theorem sumF_delta {h i : Nat} {F : Nat → Int} (hi : i < h) : (sumF h fun k => (if i = k then 1 else 0) * F k) = F i := by
  have key : ∀ c, c ≤ h → (sumF c fun k => (if i = k then 1 else 0) * F k) = if i < c then F i else 0 := fun c => by
    induction c with
    | zero => intro _; rfl
    | succ c ih =>
      intro hc
      show (sumF c fun k => (if i = k then 1 else 0) * F k) + (if i = c then 1 else 0) * F c = _
      rw [ih (by omega)]
      by_cases e : i = c
      · subst e
        rw [if_neg (by omega), if_pos rfl, if_pos (by omega)]
        omega
      · rw [if_neg e, Int.zero_mul]
        by_cases e2 : i < c
        · rw [if_pos e2, if_pos (by omega)]
          omega
        · rw [if_neg e2, if_neg (by omega)]
          rfl
  rw [key h (Nat.le_refl _), if_pos hi]
/-- a left inverse -/
theorem det_left {k : Nat} {U : List (List Int)} {c : Nat → Nat → Int} (hk : k ≤ 4) (hU : Sz k U) (hc : ∀ i l, i < k → l < k → (sumF k fun b => c i b * ent U b l) = if i = l then 1 else 0) : (detL k U).natAbs = 1 := by
  have hCs : Sz k ((List.range k).map fun i => (List.range k).map fun b => c i b) := ⟨by rw [List.length_map, List.length_range], fun r hr => by
    obtain ⟨a, _, rfl⟩ := List.mem_map.mp hr
    rw [List.length_map, List.length_range]⟩
  obtain ⟨C, hCe⟩ : ∃ C, (List.range k).map (fun i => (List.range k).map fun b => c i b) = C := ⟨_, rfl⟩
  rw [hCe] at hCs
  have hCent : ∀ i b, i < k → b < k → ent C i b = c i b := fun i b hi hb => by
    rw [← hCe]
    unfold ent
    rw [List.getD_eq_getElem?_getD (l := (List.range k).map _), List.getElem?_map, List.getElem?_range hi]
    show ((List.range k).map fun b => c i b).getD b 0 = _
    rw [List.getD_eq_getElem?_getD, List.getElem?_map, List.getElem?_range hb]
    rfl
  have hone : mulM C U k = unitM k := mat_ext ⟨by rw [mulM_len, hCs.len], mulM_row⟩ (unitM_sz k) fun i l hi hl => by
    rw [unitM_ent hi, unit_get hi, mul_ent (by rw [hCs.len]; exact hi) hl hCs.row hU.len, sumF_congr (g := fun b => c i b * ent U b l) fun b hb => by rw [hCent i b hi hb], hc i l hi hl]
  have hdet := det_mul hk hCs hU
  rw [hone] at hdet
  have h1 : detL k (unitM k) = 1 := by
    rcases (show k = 0 ∨ k = 1 ∨ k = 2 ∨ k = 3 ∨ k = 4 by omega) with rfl | rfl | rfl | rfl | rfl <;> decide
  rw [h1] at hdet
  have h2 : (detL k U).natAbs * (detL k C).natAbs = 1 := by rw [Nat.mul_comm, ← Int.natAbs_mul, ← hdet]; rfl
  exact Nat.dvd_one.mp ⟨_, h2.symm⟩
theorem sumF_swap {n : Nat} (y : Nat → Int) (u : Nat → Nat → Int) (v : Nat → Int) : ∀ m, (sumF m fun l => y l * sumF n fun a => u l a * v a) = sumF n fun a => (sumF m fun l => y l * u l a) * v a
  | 0 => by
    have e : (sumF n fun a => (sumF 0 fun l => y l * u l a) * v a) = sumF n fun _ => 0 := sumF_congr fun a _ => (show (0 : Int) * v a = 0 from Int.zero_mul _)
    rw [e, sumF_zero]
    rfl
  | m + 1 => by
    show (sumF m fun l => y l * sumF n fun a => u l a * v a) + y m * (sumF n fun a => u m a * v a) = _
    rw [sumF_swap y u v m, ← sumF_lin]
    refine sumF_congr fun a _ => ?_
    show _ = ((sumF m fun l => y l * u l a) + y m * u m a) * v a
    grind
theorem ent_mov {G V : List (List Int)} {n i j : Nat} (hi : i < V.length) (hj : j < V.length) : ent (movM G V n) i j = prodM G (V.getD i []) (V.getD j []) n := by
  have e : ∀ i, i < V.length → V[i]? = some (V.getD i []) := fun i hi => by rw [List.getD_eq_getElem?_getD, List.getElem?_eq_getElem hi]; rfl
  unfold ent movM
  rw [List.getD_eq_getElem?_getD (l := V.map _), List.getElem?_map, e i hi]
  show (V.map fun y => prodM G (V.getD i []) y n).getD j 0 = _
  rw [List.getD_eq_getElem?_getD, List.getElem?_map, e j hj]
  rfl
theorem row_fn {A : List (List Int)} {w l j : Nat} (rA : ∀ r ∈ A, r.length = w) (hj : w ≤ j) : fn (A.getD l []) j = 0 := by
  show (A.getD l []).getD j 0 = 0
  by_cases h : l < A.length
  · have e : A.getD l [] = A[l] := by rw [List.getD_eq_getElem?_getD, List.getElem?_eq_getElem h]; rfl
    have hl := rA _ (List.getElem_mem h)
    rw [e]
    exact getD_none (by omega)
  · rw [List.getD_eq_getElem?_getD (l := A), List.getElem?_eq_none (by omega)]
    rfl
theorem getD_mem {A : List (List Int)} {l : Nat} (h : l < A.length) : A.getD l [] ∈ A := by
  rw [List.getD_eq_getElem?_getD, List.getElem?_eq_getElem h]
  exact List.getElem_mem h
theorem mem_getD {A : List (List Int)} {r : List Int} (h : r ∈ A) : ∃ l, l < A.length ∧ r = A.getD l [] := by
  obtain ⟨l, hl, e⟩ := List.getElem_of_mem h
  exact ⟨l, hl, by rw [List.getD_eq_getElem?_getD, List.getElem?_eq_getElem hl]; exact e.symm⟩
/-! ### coordinates in the rows of U -/
def cU (U : List (List Int)) (n : Nat) (f : Nat → Int) : Nat → Int := fun j => sumF n fun k => f k * ent U k j
theorem mov_bf {n : Nat} {G U : List (List Int)} (D : Dom n G) (lU : U.length = n) (f g : Nat → Int) : BF (movM G U n) n f g = BF G n (cU U n f) (cU U n g) := by
  have h1 : BF G n (cU U n f) (cU U n g) = sumF n fun x => f x * BF G n (fun j => ent U x j) (cU U n g) := bf_sum G n (cU U n g) f (fun k j => ent U k j) n
  rw [h1]
  show (sumF n fun x => sumF n fun y => f x * ent (movM G U n) x y * g y) = _
  refine sumF_congr fun x hx => ?_
  rw [bf_sym D (fun j => ent U x j) (cU U n g)]
  have h2 : BF G n (cU U n g) (fun j => ent U x j) = sumF n fun y => g y * BF G n (fun j => ent U y j) (fun j => ent U x j) := bf_sum G n (fun j => ent U x j) g (fun k j => ent U k j) n
  rw [h2, ← sumF_mul]
  refine sumF_congr fun y hy => ?_
  rw [ent_mov (by omega) (by omega)]
  have h3 : prodM G (U.getD x []) (U.getD y []) n = BF G n (fun j => ent U y j) (fun j => ent U x j) := bf_sym D (fun j => ent U x j) (fun j => ent U y j)
  rw [h3, Int.mul_assoc, Int.mul_comm (BF G n _ _) (g y)]
theorem invM_len {n : Nat} {U : List (List Int)} : (invM n U).length = n := by unfold invM; rw [List.length_map, List.length_range]
theorem invM_ent {n i k : Nat} {U : List (List Int)} (hi : i < n) (hk : k < n) : ent (invM n U) i k = detL n U * ent (dueM n U) i k := by
  unfold invM
  unfold ent
  rw [List.getD_eq_getElem?_getD (l := List.map _ _), List.getElem?_map, List.getElem?_range hi]
  show ((List.range n).map fun k => detL n U * ((dueM n U).getD i []).getD k 0).getD k 0 = _
  rw [List.getD_eq_getElem?_getD, List.getElem?_map, List.getElem?_range hk]
  rfl
theorem invM_row {n : Nat} {U : List (List Int)} : ∀ r ∈ invM n U, r.length = n := fun r hr => by
  obtain ⟨i, _, rfl⟩ := List.mem_map.mp hr
  rw [List.length_map, List.length_range]
theorem due_row' {n : Nat} {U : List (List Int)} : ∀ r ∈ dueM n U, r.length = n := fun r hr => by
  obtain ⟨i, _, rfl⟩ := List.mem_map.mp hr
  rw [List.length_map, List.length_range]
theorem sq1 {d : Int} (h : d.natAbs = 1) (z : Int) : d * (d * z) = z := by
  rcases (show d = 1 ∨ d = -1 by omega) with rfl | rfl <;> omega
theorem invM_cU {n : Nat} {U : List (List Int)} (h4 : n ≤ 4) (hs : Sz n U) (hd : (detL n U).natAbs = 1) {i j : Nat} (hi : i < n) (hj : j < n) : cU U n (fn ((invM n U).getD i [])) j = if i = j then 1 else 0 := by
  unfold cU
  rw [sumF_congr (g := fun k => detL n U * (ent (dueM n U) i k * ent U k j)) fun k hk => by
    show ent (invM n U) i k * ent U k j = _
    rw [invM_ent hi hk, Int.mul_assoc]]
  rw [sumF_mul, ← mul_ent (A := dueM n U) (B := U) (w := n) (by rw [due_len']; exact hi) hj due_row' hs.len, due_mul h4 hs, scal_ent hi hj, sq1 hd]
theorem invM_full {n : Nat} {U : List (List Int)} (h4 : n ≤ 4) (hs : Sz n U) (hd : (detL n U).natAbs = 1) : Full n (invM n U) := fun i hi => by
  refine (spn_comb (R := invM n U) (g := fun k => fn ((invM n U).getD k [])) (c := fun k => ent U i k) n fun k hk => Spn.mem (getD_mem (by rw [invM_len]; exact hk))).cong fun j => ?_
  show (sumF n fun k => ent U i k * fn ((invM n U).getD k []) j) = fn (unitU n i) j
  rw [unit_get hi]
  by_cases hj : j < n
  · rw [sumF_congr (g := fun k => detL n U * (ent U i k * ent (dueM n U) k j)) fun k hk => by
      show ent U i k * ent (invM n U) k j = _
      rw [invM_ent hk hj]
      grind]
    rw [sumF_mul, ← mul_ent (A := U) (B := dueM n U) (w := n) (by rw [hs.len]; exact hi) hj hs.row (due_len' n U), mul_due h4 hs, scal_ent hi hj, sq1 hd]
  · rw [if_neg (by omega), sumF_congr (g := fun _ => 0) fun k _ => by rw [row_fn invM_row (by omega), Int.mul_zero], sumF_zero]
theorem full_det {n : Nat} {W : List (List Int)} (h4 : n ≤ 4) (hs : Sz n W) (hf : Full n W) : (detL n W).natAbs = 1 := by
  have hy : ∀ i, ∃ c : Nat → Int, i < n → ∀ l, fn (unitU n i) l = sumF n fun b => c b * fn (W.getD b []) l := fun i => by
    by_cases hi : i < n
    · obtain ⟨c, hc⟩ := spn_out (hf i hi)
      refine ⟨c, fun _ l => ?_⟩
      have h1 := hc l
      rw [hs.len] at h1
      exact h1
    · exact ⟨fun _ => 0, fun h => absurd h hi⟩
  obtain ⟨c, hc⟩ := Classical.axiomOfChoice hy
  refine det_left (c := c) h4 hs fun i l hi hl => ?_
  have h1 := hc i hi l
  rw [unit_get hi] at h1
  exact h1.symm
theorem full_sub {n : Nat} {V W : List (List Int)} (hf : Full n V) (h : ∀ r ∈ V, Spn W (fn r)) : Full n W := fun i hi => Spn.sub h (hf i hi)
/-- orthogonal, by the bilinear form -/
theorem orth_map {L M1 M2 : List (List Int)} {n : Nat} (r2 : ∀ r ∈ M2, r.length = n) : orthM L M1 M2 n = M1.map fun x => M2.map fun y => dotI ((transp L n).map fun c => dotI x c) y := by
  unfold orthM
  show List.map _ (List.map _ M1) = _
  rw [List.map_map, tt r2]
  rfl
theorem orth_bf {L : List (List Int)} {n : Nat} {x y : List Int} (lL : L.length = n) (hx : x.length = n) (hy : y.length = n) : dotI ((transp L n).map fun c => dotI x c) y = BF L n (fn x) (fn y) := by
  have e1 : BF L n (fn x) (fn y) = sumF n fun i => fn x i * sumF n fun j => ent L i j * fn y j := sumF_congr fun i _ => by
    rw [← sumF_mul]
    exact sumF_congr fun j _ => by rw [Int.mul_assoc]
  rw [e1, sumF_swap (fn x) (ent L) (fn y) n, dot_sum (n := n) (by rw [List.length_map, transp_len]) hy]
  refine sumF_congr fun j hj => ?_
  congr 1
  have hj' : j < (transp L n).length := by rw [transp_len]; exact hj
  have e : (transp L n)[j]? = some ((transp L n).getD j []) := by rw [List.getD_eq_getElem?_getD, List.getElem?_eq_getElem hj']; rfl
  show ((transp L n).map fun c => dotI x c).getD j 0 = _
  rw [List.getD_eq_getElem?_getD, List.getElem?_map, e]
  show dotI x ((transp L n).getD j []) = _
  rw [dot_sum (n := n) hx (by rw [transp_row _ (tr_row hj), lL])]
  exact sumF_congr fun i _ => by rw [tr_fn hj]
theorem orth_iff {L M1 M2 : List (List Int)} {n : Nat} (lL : L.length = n) (r1 : ∀ r ∈ M1, r.length = n) (r2 : ∀ r ∈ M2, r.length = n) : orthB L M1 M2 n = true ↔ ∀ x ∈ M1, ∀ y ∈ M2, BF L n (fn x) (fn y) = 0 := by
  unfold orthB
  rw [orth_map r2, Bool.not_eq_true', List.any_eq_false]
  constructor
  · intro h x hx y hy
    rw [← orth_bf lL (r1 x hx) (r2 y hy)]
    apply Classical.byContradiction
    intro hn
    exact h _ (List.mem_flatten.mpr ⟨_, List.mem_map.mpr ⟨x, hx, rfl⟩, List.mem_map.mpr ⟨y, hy, rfl⟩⟩) (by simpa using hn)
  · intro h z hz
    obtain ⟨l, hl, hzl⟩ := List.mem_flatten.mp hz
    obtain ⟨x, hx, rfl⟩ := List.mem_map.mp hl
    obtain ⟨y, hy, rfl⟩ := List.mem_map.mp hzl
    rw [orth_bf lL (r1 x hx) (r2 y hy), h x hx y hy]
    decide

end
end K39
namespace K39
open PySem PySem.Spec PyProof.Rows L2 Gm
open C8 (Cal Met Mak pe_c pe_mt pe_mt0 pe_mk)
section
variable {P : Program} {w : World} {K : PySem.W.Frag} {mg : Str → Option Value} {base : Heap}
/-! ### images of the blocks -/
structure Img (U : List (List Int)) (n off ln : Nat) (M : List (List Int)) : Prop where
  len : M.length = ln
  row : ∀ r ∈ M, r.length = n
  bit : ∀ r ∈ M, Bits 99 r
  sup : ∀ r ∈ M, ∀ j, j < n → cU U n (fn r) j ≠ 0 → off ≤ j ∧ j < off + ln
  gen : ∀ k, off ≤ k → k < off + ln → Spn M (fn ((invM n U).getD k []))
  head : M.getD 0 [] = (invM n U).getD off []
def offB (bs : List (List (List Int))) (t : Nat) : Nat := bsum (bs.take t)
def lenB (bs : List (List (List Int))) (t : Nat) : Nat := (bs.getD t []).length
theorem getD_mem' {α : Type} {l : List (List α)} {t : Nat} (h : t < l.length) : l.getD t [] ∈ l := by
  rw [List.getD_eq_getElem?_getD, List.getElem?_eq_getElem h]
  exact List.getElem_mem h
theorem offB_mono {bs : List (List (List Int))} {s u : Nat} (h : s < u) (hu : u ≤ bs.length) : offB bs s + lenB bs s ≤ offB bs u := by
  have e : bs[s]? = some (bs.getD s []) := by rw [List.getD_eq_getElem?_getD, List.getElem?_eq_getElem (by omega)]; rfl
  obtain ⟨e1, _⟩ := bsum_take e
  have e2 : bsum (bs.take u) = bsum ((bs.take u).take (s + 1)) + bsum ((bs.take u).drop (s + 1)) := by
    unfold bsum
    rw [← List.sum_append, ← List.map_append, List.take_append_drop]
  rw [List.take_take, show min (s + 1) u = s + 1 by omega, e1, bsum_app] at e2
  unfold offB lenB
  omega
theorem joinE_nz : ∀ {bs : List (List (List Int))} {x y : Nat}, joinE bs x y ≠ 0 → ∃ t, t < bs.length ∧ (offB bs t ≤ x ∧ x < offB bs t + lenB bs t) ∧ (offB bs t ≤ y ∧ y < offB bs t + lenB bs t)
  | [], x, y, h => absurd rfl h
  | b :: bs, x, y, h => by
    have h' : (if x < b.length ∧ y < b.length then ent b x y else if b.length ≤ x ∧ b.length ≤ y then joinE bs (x - b.length) (y - b.length) else 0) ≠ 0 := h
    by_cases h1 : x < b.length ∧ y < b.length
    · refine ⟨0, Nat.succ_pos _, ?_⟩
      show (0 ≤ x ∧ x < 0 + b.length) ∧ (0 ≤ y ∧ y < 0 + b.length)
      omega
    · rw [if_neg h1] at h'
      by_cases h2 : b.length ≤ x ∧ b.length ≤ y
      · rw [if_pos h2] at h'
        obtain ⟨t, ht, h3, h4⟩ := joinE_nz h'
        refine ⟨t + 1, Nat.succ_lt_succ ht, ?_⟩
        show (b.length + offB bs t ≤ x ∧ x < b.length + offB bs t + lenB bs t) ∧ (b.length + offB bs t ≤ y ∧ y < b.length + offB bs t + lenB bs t)
        omega
      · rw [if_neg h2] at h'
        exact absurd rfl h'
theorem cover : ∀ {bs : List (List (List Int))} {k : Nat}, k < bsum bs → ∃ t, t < bs.length ∧ offB bs t ≤ k ∧ k < offB bs t + lenB bs t
  | [], k, h => absurd h (Nat.not_lt_zero _)
  | b :: bs, k, h => by
    have h' : k < b.length + bsum bs := h
    by_cases h1 : k < b.length
    · refine ⟨0, Nat.succ_pos _, ?_⟩
      show 0 ≤ k ∧ k < 0 + b.length
      omega
    · obtain ⟨t, ht, h3⟩ := cover (bs := bs) (k := k - b.length) (by omega)
      refine ⟨t + 1, Nat.succ_lt_succ ht, ?_⟩
      show b.length + offB bs t ≤ k ∧ k < b.length + offB bs t + lenB bs t
      omega
theorem join_zero {bs : List (List (List Int))} {s t x y : Nat} (hst : s ≠ t) (hs : s < bs.length) (ht : t < bs.length) (hx : offB bs s ≤ x ∧ x < offB bs s + lenB bs s) (hy : offB bs t ≤ y ∧ y < offB bs t + lenB bs t) : joinE bs x y = 0 := by
  apply Classical.byContradiction
  intro hn
  obtain ⟨u, hu, h1, h2⟩ := joinE_nz hn
  have dis : ∀ {a b z : Nat}, a < bs.length → b < bs.length → (offB bs a ≤ z ∧ z < offB bs a + lenB bs a) → (offB bs b ≤ z ∧ z < offB bs b + lenB bs b) → a = b := fun {a b z} ha hb k1 k2 => by
    rcases Nat.lt_trichotomy a b with h | h | h
    · have := offB_mono h (Nat.le_of_lt hb)
      omega
    · exact h
    · have := offB_mono h (Nat.le_of_lt ha)
      omega
  exact hst ((dis hs hu hx h1).trans (dis hu ht h2 hy))
theorem matF_ent {n x y : Nat} {F : Nat → Nat → Int} (hx : x < n) (hy : y < n) : ent (matF n F) x y = F x y := by
  rw [ent_of (matF_at hx), List.getD_eq_getElem?_getD, List.getElem?_map, List.getElem?_range hy]
  rfl
theorem bf_sup {G : List (List Int)} {n : Nat} {f g : Nat → Int} (h : ∀ i j, i < n → j < n → f i ≠ 0 → g j ≠ 0 → ent G i j = 0) : BF G n f g = 0 := by
  unfold BF
  rw [sumF_congr (g := fun _ => 0) fun i hi => ?_, sumF_zero]
  rw [sumF_congr (g := fun _ => 0) fun j hj => ?_, sumF_zero]
  by_cases h1 : f i = 0
  · rw [h1, Int.zero_mul, Int.zero_mul]
  · by_cases h2 : g j = 0
    · rw [h2, Int.mul_zero]
    · rw [h i j hi hj h1 h2, Int.mul_zero, Int.zero_mul]
/-- the images of all the blocks -/
structure Imgs (U : List (List Int)) (bs : List (List (List Int))) (Ms : List (List (List Int))) (i : Nat) : Prop where
  len : Ms.length = i
  img : ∀ t, t < i → Img U (bsum bs) (offB bs t) (lenB bs t) (Ms.getD t [])
section
variable {U : List (List Int)} {bs Ms : List (List (List Int))}
structure Env39 (U : List (List Int)) (bs Ms : List (List (List Int))) : Prop where
  blk : ∀ b ∈ bs, Blk b
  n0 : 0 < bsum bs
  n3 : bsum bs ≤ 3
  uni : Uni (bsum bs) 3 U
  ims : Imgs U bs Ms bs.length
theorem Env39.dom (e : Env39 U bs Ms) : Dom (bsum bs) (joinM bs) := join_dom e.blk e.n0 e.n3
theorem Env39.at_ (e : Env39 U bs Ms) {M : List (List Int)} (h : M ∈ Ms) : ∃ t, t < bs.length ∧ Ms.getD t [] = M ∧ Img U (bsum bs) (offB bs t) (lenB bs t) M := by
  obtain ⟨t, ht, rfl⟩ := List.getElem_of_mem h
  rw [e.ims.len] at ht
  have e1 : Ms.getD t [] = Ms[t]'(by rw [e.ims.len]; exact ht) := by rw [List.getD_eq_getElem?_getD, List.getElem?_eq_getElem (by rw [e.ims.len]; exact ht)]; rfl
  exact ⟨t, ht, e1, by rw [← e1]; exact e.ims.img t ht⟩
theorem Env39.orth (e : Env39 U bs Ms) {s t : Nat} (hst : s ≠ t) (hs : s < bs.length) (ht : t < bs.length) {x y : List Int} (hx : x ∈ Ms.getD s []) (hy : y ∈ Ms.getD t []) : BF (movM (joinM bs) U (bsum bs)) (bsum bs) (fn x) (fn y) = 0 := by
  rw [mov_bf e.dom e.uni.sz.len]
  refine bf_sup fun i j hi hj h1 h2 => ?_
  unfold joinM
  rw [matF_ent hi hj]
  exact join_zero hst hs ht ((e.ims.img s hs).sup x hx i hi h1) ((e.ims.img t ht).sup y hy j hj h2)
theorem Env39.full (e : Env39 U bs Ms) {W : List (List Int)} (h : ∀ M ∈ Ms, ∀ r ∈ M, Spn W (fn r)) : Full (bsum bs) W := by
  have n3 := e.n3
  refine full_sub (invM_full (by omega) e.uni.sz e.uni.det) fun r hr => ?_
  obtain ⟨k, hk, rfl⟩ := mem_getD hr
  rw [invM_len] at hk
  obtain ⟨t, ht, h1, h2⟩ := cover hk
  have hM : Ms.getD t [] ∈ Ms := getD_mem' (by rw [e.ims.len]; exact ht)
  exact Spn.sub (h _ hM) ((e.ims.img t ht).gen k h1 h2)
theorem Env39.maps (e : Env39 U bs Ms) : Ms.map List.length = bs.map List.length := by
  apply List.ext_getElem?
  intro t
  rw [List.getElem?_map, List.getElem?_map]
  by_cases ht : t < bs.length
  · have h1 := (e.ims.img t ht).len
    have htM : t < Ms.length := by rw [e.ims.len]; exact ht
    rw [List.getElem?_eq_getElem ht, List.getElem?_eq_getElem htM]
    rw [List.getD_eq_getElem?_getD, List.getElem?_eq_getElem htM] at h1
    unfold lenB at h1
    rw [List.getD_eq_getElem?_getD, List.getElem?_eq_getElem ht] at h1
    exact congrArg some h1
  · rw [List.getElem?_eq_none (by rw [e.ims.len]; omega), List.getElem?_eq_none (by omega)]
theorem Env39.flat (e : Env39 U bs Ms) : Ms.flatten.length = bsum bs := by
  rw [List.length_flatten, e.maps]
  rfl
theorem Env39.pos (e : Env39 U bs Ms) {t : Nat} (ht : t < bs.length) : 0 < lenB bs t ∧ 0 < BF (movM (joinM bs) U (bsum bs)) (bsum bs) (fn ((Ms.getD t []).getD 0 [])) (fn ((Ms.getD t []).getD 0 [])) := by
  have hb : bs.getD t [] ∈ bs := getD_mem' ht
  have hl := blk_len (e.blk _ hb)
  refine ⟨hl, ?_⟩
  have n3 := e.n3
  rw [(e.ims.img t ht).head, mov_bf e.dom e.uni.sz.len]
  have hoff : offB bs t < bsum bs := by
    have h1 := offB_mono (bs := bs) ht (Nat.le_refl _)
    have h2 : offB bs bs.length = bsum bs := by unfold offB; rw [List.take_length]
    have h3 : 0 < lenB bs t := hl
    omega
  have hn := bf_nn e.dom (cU U (bsum bs) (fn ((invM (bsum bs) U).getD (offB bs t) [])))
  rcases Int.lt_or_eq_of_le hn with h | h
  · exact h
  · have := bf_null e.dom h.symm (offB bs t) hoff
    rw [invM_cU (by omega) e.uni.sz e.uni.det hoff hoff, if_pos rfl] at this
    cases this
theorem mem_pairs {Ns : List (List (List Int))} {p : List (List Int) × List (List Int)} (h : p ∈ pairsL Ns) : ∃ k j, j < k ∧ k < Ns.length ∧ p = (Ns.getD k [], Ns.getD j []) := by
  unfold pairsL at h
  obtain ⟨k, hk, h⟩ := List.mem_flatMap.mp h
  obtain ⟨M, hM, rfl⟩ := List.mem_map.mp h
  have hk' := List.mem_range.mp hk
  obtain ⟨j, hj, rfl⟩ := List.getElem_of_mem hM
  rw [List.length_take] at hj
  refine ⟨k, j, by omega, hk', ?_⟩
  congr 1
  rw [List.getElem_take, List.getD_eq_getElem?_getD, List.getElem?_eq_getElem (by omega)]
  rfl
theorem pairs_mem {Ns : List (List (List Int))} {k j : Nat} (hj : j < k) (hk : k < Ns.length) : (Ns.getD k [], Ns.getD j []) ∈ pairsL Ns := by
  unfold pairsL
  refine List.mem_flatMap.mpr ⟨k, List.mem_range.mpr hk, List.mem_map.mpr ⟨Ns.getD j [], ?_, rfl⟩⟩
  have e : (Ns.take k)[j]? = some (Ns.getD j []) := by
    rw [List.getElem?_take, if_pos hj, List.getD_eq_getElem?_getD, List.getElem?_eq_getElem (by omega)]
    rfl
  exact List.mem_of_getElem? e
/-- True of blocks that hold the images, each image in one of them -/
theorem Env39.part (e : Env39 U bs Ms) {Ns : List (List (List Int))} (hl : Ns.flatten.length = bsum bs) (hf : ∀ M ∈ Ms, ∀ r ∈ M, r ∈ Ns.flatten) (hr : ∀ N ∈ Ns, ∀ r ∈ N, r.length = bsum bs)
    (ho : ∀ k j, j < k → k < Ns.length → ∀ x ∈ Ns.getD k [], ∀ y ∈ Ns.getD j [], ∃ s t, s ≠ t ∧ s < bs.length ∧ t < bs.length ∧ x ∈ Ms.getD s [] ∧ y ∈ Ms.getD t []) : partB (movM (joinM bs) U (bsum bs)) Ns (bsum bs) = true := by
  have n3 := e.n3
  have hW : Sz (bsum bs) Ns.flatten := ⟨hl, fun r h => by obtain ⟨N, hN, hrN⟩ := List.mem_flatten.mp h; exact hr N hN r hrN⟩
  have hd := full_det (by omega) hW (e.full fun M hM r hrM => Spn.mem (hf M hM r hrM))
  unfold partB
  rw [decide_eq_true ⟨hl, hd⟩, Bool.true_and, List.all_eq_true]
  intro p hp
  obtain ⟨k, j, hjk, hk, rfl⟩ := mem_pairs hp
  refine (orth_iff (by rw [movM_len, e.uni.sz.len]) (fun r h => ?_) (fun r h => ?_)).mpr fun x hx y hy => ?_
  · exact hr _ (getD_mem' hk) r h
  · exact hr _ (getD_mem' (by omega)) r h
  · obtain ⟨s, t, hst, hs, ht, h1, h2⟩ := ho k j hjk hk x hx y hy
    exact e.orth hst hs ht h1 h2
end

end
end K39
namespace K39
open PySem PySem.Spec PyProof.Rows L2 Gm
open C8 (Cal Met Mak pe_c pe_mt pe_mt0 pe_mk)
section
variable {P : Program} {w : World} {K : PySem.W.Frag} {mg : Str → Option Value} {base : Heap}
/-! ### partings and what is none -/
section
variable {U : List (List Int)} {bs Ms : List (List (List Int))}
theorem Env39.rowL (e : Env39 U bs Ms) : ∀ N ∈ Ms, ∀ r ∈ N, r.length = bsum bs := fun N hN r hr => by
  obtain ⟨t, _, _, im⟩ := e.at_ hN
  exact im.row r hr
theorem Env39.P1 (e : Env39 U bs Ms) : partB (movM (joinM bs) U (bsum bs)) Ms (bsum bs) = true :=
  e.part e.flat (fun M hM r hr => List.mem_flatten.mpr ⟨M, hM, hr⟩) e.rowL fun k j hjk hk x hx y hy => ⟨k, j, by omega, by rw [← e.ims.len]; exact hk, by rw [← e.ims.len]; omega, hx, hy⟩
theorem rev_get {α : Type} {l : List (List α)} {k : Nat} (hk : k < l.length) : l.reverse.getD k [] = l.getD (l.length - 1 - k) [] := by
  rw [List.getD_eq_getElem?_getD, List.getElem?_reverse hk, List.getD_eq_getElem?_getD]
theorem Env39.P2 (e : Env39 U bs Ms) : partB (movM (joinM bs) U (bsum bs)) Ms.reverse (bsum bs) = true := by
  refine e.part ?_ (fun M hM r hr => List.mem_flatten.mpr ⟨M, List.mem_reverse.mpr hM, hr⟩) (fun N hN => e.rowL N (List.mem_reverse.mp hN)) fun k j hjk hk x hx y hy => ?_
  · rw [← e.flat, List.length_flatten, List.length_flatten, List.map_reverse, List.sum_reverse]
  · rw [List.length_reverse] at hk
    rw [rev_get hk] at hx
    rw [rev_get (by omega)] at hy
    exact ⟨_, _, by omega, by rw [← e.ims.len]; omega, by rw [← e.ims.len]; omega, hx, hy⟩
theorem two_of {α : Type} {l : List α} (h : 1 < l.length) : ∃ a b t, l = a :: b :: t := by
  match l, h with
  | a :: b :: t, _ => exact ⟨a, b, t, rfl⟩
theorem Env39.P3 {M0 M1 : List (List Int)} {Mt : List (List (List Int))} (e : Env39 U bs (M0 :: M1 :: Mt)) : partB (movM (joinM bs) U (bsum bs)) ((M0 ++ M1) :: Mt) (bsum bs) = true := by
  have hl := e.ims.len
  refine e.part ?_ (fun M hM r hr => ?_) (fun N hN r hr => ?_) fun k j hjk hk x hx y hy => ?_
  · rw [← e.flat, List.flatten_cons, List.flatten_cons, List.flatten_cons, List.append_assoc]
  · have := List.mem_flatten.mpr ⟨M, hM, hr⟩
    rw [List.flatten_cons, List.flatten_cons, ← List.append_assoc, ← List.flatten_cons] at this
    exact this
  · rcases List.mem_cons.mp hN with rfl | hN
    · rcases List.mem_append.mp hr with h | h
      · exact e.rowL M0 (List.mem_cons_self ..) r h
      · exact e.rowL M1 (List.mem_cons_of_mem _ (List.mem_cons_self ..)) r h
    · exact e.rowL N (List.mem_cons_of_mem _ (List.mem_cons_of_mem _ hN)) r hr
  · simp only [List.length_cons] at hk hl
    obtain ⟨k', rfl⟩ : ∃ k', k = k' + 1 := ⟨k - 1, by omega⟩
    have hx' : x ∈ (M0 :: M1 :: Mt).getD (k' + 2) [] := hx
    cases j with
    | zero =>
      have hy' : y ∈ M0 ++ M1 := hy
      rcases List.mem_append.mp hy' with h | h
      · exact ⟨k' + 2, 0, by omega, by omega, by omega, hx', h⟩
      · exact ⟨k' + 2, 1, by omega, by omega, by omega, hx', h⟩
    | succ j =>
      have hy' : y ∈ (M0 :: M1 :: Mt).getD (j + 2) [] := hy
      exact ⟨k' + 2, j + 2, by omega, by omega, by omega, hx', hy'⟩
theorem bf_linr (G : List (List Int)) (n : Nat) (h f g : Nat → Int) : BF G n h (fun i => f i + g i) = BF G n h f + BF G n h g := by
  have e : ∀ i, (sumF n fun j => h i * ent G i j * (f j + g j)) = (sumF n fun j => h i * ent G i j * f j) + 1 * sumF n fun j => h i * ent G i j * g j := fun i => by
    rw [← sumF_lin]
    exact sumF_congr fun j _ => by rw [Int.mul_add, Int.one_mul]
  show (sumF n fun i => sumF n fun j => h i * ent G i j * (f j + g j)) = _
  rw [sumF_congr fun i _ => e i, sumF_lin, Int.one_mul]
  rfl
theorem not_true {b : Bool} (h : b = true → False) : b = false := by
  cases b with
  | false => rfl
  | true => exact (h rfl).elim
theorem Env39.P4 {r0 r1 m : List Int} {T0 T1 : List (List Int)} {Mt : List (List (List Int))} (e : Env39 U bs ((r0 :: T0) :: (r1 :: T1) :: Mt)) (lm : m.length = bsum bs) (hm : ∀ j, j < bsum bs → fn m j = fn r0 j + fn r1 j) : partB (movM (joinM bs) U (bsum bs)) ((m :: T0) :: (r1 :: T1) :: Mt) (bsum bs) = false := by
  have hl := e.ims.len
  simp only [List.length_cons] at hl
  refine not_true fun h => ?_
  unfold partB at h
  rw [Bool.and_eq_true, List.all_eq_true] at h
  have hp := h.2 _ (pairs_mem (Ns := (m :: T0) :: (r1 :: T1) :: Mt) (k := 1) (j := 0) (by decide) (by simp))
  have rr := e.rowL
  have hr0 := rr (r0 :: T0) (List.mem_cons_self ..)
  have hr1 := rr (r1 :: T1) (List.mem_cons_of_mem _ (List.mem_cons_self ..))
  have hz := (orth_iff (L := movM (joinM bs) U (bsum bs)) (M1 := r1 :: T1) (M2 := m :: T0) (by rw [movM_len, e.uni.sz.len]) hr1 (fun r h => by
    rcases List.mem_cons.mp h with rfl | h
    · exact lm
    · exact hr0 r (List.mem_cons_of_mem _ h))).mp hp r1 (List.mem_cons_self ..) m (List.mem_cons_self ..)
  rw [bf_congr (f' := fn r1) (g' := fun j => fn r0 j + fn r1 j) (fun _ _ => rfl) hm, bf_linr] at hz
  have h1 := e.orth (s := 1) (t := 0) (by decide) (by omega) (by omega) (x := r1) (y := r0) (List.mem_cons_self ..) (List.mem_cons_self ..)
  have h2 := (e.pos (t := 1) (by omega)).2
  have h3 : 0 < BF (movM (joinM bs) U (bsum bs)) (bsum bs) (fn r1) (fn r1) := h2
  omega
theorem len_false {L : List (List Int)} {Ns : List (List (List Int))} {n : Nat} (h : Ns.flatten.length ≠ n) : partB L Ns n = false := by
  unfold partB
  rw [decide_eq_false fun z => h z.1]
  rfl
theorem Env39.ne_ (e : Env39 U bs Ms) : ∃ r T Mt, Ms = (r :: T) :: Mt := by
  have h0 := e.n0
  have hl := e.flat
  match Ms, e with
  | [], e => rw [List.flatten_nil, List.length_nil] at hl; omega
  | M :: Mt, e =>
    have := (e.pos (t := 0) (by rw [← e.ims.len]; exact Nat.succ_pos _)).1
    have h1 := (e.ims.img 0 (by rw [← e.ims.len]; exact Nat.succ_pos _)).len
    have h2 : M.length = lenB bs 0 := h1
    match M, h2 with
    | [], h2 => rw [← h2] at this; exact absurd this (Nat.lt_irrefl _)
    | r :: T, _ => exact ⟨r, T, Mt, rfl⟩
theorem Env39.P5 {M0 : List (List Int)} {Mt : List (List (List Int))} (e : Env39 U bs (M0 :: Mt)) : partB (movM (joinM bs) U (bsum bs)) Mt (bsum bs) = false := by
  obtain ⟨r, T, _, e1⟩ := e.ne_
  have hl := e.flat
  refine len_false fun h => ?_
  cases e1
  rw [List.flatten_cons, List.length_append, List.length_cons] at hl
  omega
theorem Env39.P6 {M0 : List (List Int)} {Mt : List (List (List Int))} (e : Env39 U bs (M0 :: Mt)) : partB (movM (joinM bs) U (bsum bs)) (M0 :: Mt ++ [M0]) (bsum bs) = false := by
  obtain ⟨r, T, _, e1⟩ := e.ne_
  have hl := e.flat
  refine len_false fun h => ?_
  cases e1
  rw [List.flatten_append, List.length_append] at h
  have h2 : ([r :: T].flatten).length = T.length + 1 := by simp
  omega
def dblR (r : List Int) : List Int := r.map fun z => 2 * z
theorem det_dbl {n : Nat} {r : List Int} {T : List (List Int)} (h0 : 0 < n) (h3 : n ≤ 3) (hs : Sz n (r :: T)) : detL n (dblR r :: T) = 2 * detL n (r :: T) := by
  rcases n123 h0 h3 with rfl | rfl | rfl
  · obtain ⟨a, e⟩ := sz1 hs
    cases e
    show detL 1 [[2 * a]] = 2 * detL 1 [[a]]
    rw [detL1, detL1]
  · obtain ⟨a, b, c, d, e⟩ := sz2 hs
    cases e
    show detL 2 [[2 * a, 2 * b], [c, d]] = 2 * detL 2 [[a, b], [c, d]]
    rw [detL2, detL2]
    unfold D2
    grind
  · obtain ⟨a, b, c, d, f, g, x, y, z, e⟩ := sz3 hs
    cases e
    show detL 3 [[2 * a, 2 * b, 2 * c], [d, f, g], [x, y, z]] = 2 * detL 3 [[a, b, c], [d, f, g], [x, y, z]]
    rw [detL3, detL3]
    unfold D3
    grind
theorem Env39.P7 {r : List Int} {T : List (List Int)} {Mt : List (List (List Int))} (e : Env39 U bs ((r :: T) :: Mt)) : partB (movM (joinM bs) U (bsum bs)) ((dblR r :: T) :: Mt) (bsum bs) = false := by
  have hl := e.flat
  have hs : Sz (bsum bs) (r :: (T ++ Mt.flatten)) := ⟨hl, fun q hq => by
    obtain ⟨N, hN, hrN⟩ := List.mem_flatten.mp (show q ∈ ((r :: T) :: Mt).flatten from hq)
    exact e.rowL N hN q hrN⟩
  have hd := det_dbl e.n0 e.n3 hs
  unfold partB
  rw [decide_eq_false fun z => ?_]
  · rfl
  · have h2 := z.2
    have h3 : (detL (bsum bs) (dblR r :: (T ++ Mt.flatten))).natAbs = 1 := h2
    rw [hd] at h3
    omega
end

end
end K39
namespace K39
open PySem PySem.Spec PyProof.Rows L2 Gm
open C8 (Cal Met Mak pe_c pe_mt pe_mt0 pe_mk)
section
variable {P : Program} {w : World} {K : PySem.W.Frag} {mg : Str → Option Value} {base : Heap}
/-! ### what is no parting -/
def BadV (K : PySem.W.Frag) (CG : Addr) (H : Hp) (v : V) (L : List (List Int)) (n : Nat) : Prop :=
  NoTup K H v ∨ ∃ (a : Addr) (ws : List V) (gs : List PItem), v = .ref a ∧ SqT K H a ws ∧ Paired (okI K CG H) ws gs ∧ gs.length ≤ 5 ∧
    (gs.all (goodI n) = false ∨ ∃ Ms : List (List (List Int)), gs = Ms.map (fun M => some (M, n)) ∧ (∀ M ∈ Ms, 0 < M.length ∧ M.length ≤ 7 ∧ ∀ r ∈ M, Bits 100 r) ∧ partB L Ms n = false)
theorem bad_call {K : PySem.W.Frag} {CG CL : Addr} {H : Hp} {l v : V} {L : List (List Int)} {n : Nat} {Q : VK} {E : XK} (hl : IsLat K CG CL H l L n) (h : BadV K CG H v L n) (q : ∀ H', Same H H' → Q (.bl false) H') : sp_is_parting K CG CL [l, v] H Q E := by
  refine ⟨l, v, L, n, rfl, hl, ?_⟩
  rcases h with h | ⟨a, ws, gs, e, ha, hp, h5, h | ⟨Ms, e2, h1, h2⟩⟩
  · exact .inl ⟨h, q H (Same.refl _)⟩
  · exact .inr ⟨a, ws, gs, e, ha, hp, h5, .inl ⟨h, q⟩⟩
  · refine .inr ⟨a, ws, gs, e, ha, hp, h5, .inr ⟨Ms, e2, h1, fun H' s => ?_⟩⟩
    rw [h2]
    exact q H' s
abbrev GVs (K : PySem.W.Frag) (CG : Addr) (H : Hp) (n : Nat) : List V → List (List (List Int)) → Prop := Paired fun v M => IsGrid K CG H v M n
theorem gvs_some {K : PySem.W.Frag} {CG : Addr} {H : Hp} {n : Nat} : ∀ {ws : List V} {Ms : List (List (List Int))}, GVs K CG H n ws Ms → Paired (okI K CG H) ws (Ms.map fun M => some (M, n))
  | _, _, .nil => .nil
  | _, _, .cons r t => .cons r (gvs_some t)
theorem GVs.same {K : PySem.W.Frag} {CG : Addr} {H H' : Hp} {n : Nat} {ws : List V} {Ms : List (List (List Int))} (s : Same H H') (h : GVs K CG H n ws Ms) : GVs K CG H' n ws Ms := L2.Paired.mapP h fun _ _ => IsGrid.same s
theorem kit_tup {K : PySem.W.Frag} {C : Addr} (h : PySem.W.subIn K (.ref C) (.type "tuple") = some false) : PySem.W.kitOne K (.ref C) (.type "tuple") = some false := by
  show (if (Value.ref C == Value.type "tuple") = true then some true else if PySem.W.kitMeta "tuple" = true then PySem.W.subIn K (.ref C) (.type "tuple") else none) = some false
  rw [if_neg (by simp), if_pos (by decide +kernel)]
  exact h
theorem lenOk {Ms : List (List (List Int))} (h : ∀ M ∈ Ms, 0 < M.length ∧ M.length ≤ 3 ∧ ∀ r ∈ M, Bits 99 r) : ∀ M ∈ Ms, 0 < M.length ∧ M.length ≤ 7 ∧ ∀ r ∈ M, Bits 100 r := fun M hM => ⟨(h M hM).1, by have := (h M hM).2.1; omega, fun r hr => bits_up ((h M hM).2.2 r hr) (by decide)⟩
theorem dbl_bits {r : List Int} (h : Bits 99 r) : Bits 100 (dblR r) := fun z hz => by
  obtain ⟨x, hx, rfl⟩ := List.mem_map.mp hz
  have := h x hx
  rw [Int.natAbs_mul]
  have e : (2 : Nat) ^ 100 = 2 * 2 ^ 99 := rfl
  show 2 * x.natAbs < 2 ^ 100
  omega
def sp_law_spoilt (K : PySem.W.Frag) (CG CL : Addr) : Sp := fun vs H Q _ => ∃ (l : V) (a : Addr) (pick : Nat) (L : List (List Int)) (n : Nat) (ws : List V) (r0 : List Int) (T0 : List (List Int)) (Mt : List (List (List Int))), vs = [l, .ref a, .int (pick : Nat)] ∧ IsLat K CG CL H l L n ∧ SqT K H a ws ∧ GVs K CG H n ws ((r0 :: T0) :: Mt) ∧ Mt.length ≤ 2 ∧ n ≤ 3 ∧
  (∀ M ∈ (r0 :: T0) :: Mt, 0 < M.length ∧ M.length ≤ 3 ∧ ∀ r ∈ M, Bits 99 r) ∧ pick < 10 ∧ partB L Mt n = false ∧ partB L ((r0 :: T0) :: Mt ++ [r0 :: T0]) n = false ∧ partB L ((dblR r0 :: T0) :: Mt) n = false ∧ ∀ v H', Same H H' → BadV K CG H' v L n → Q v H'
theorem ok_law_spoilt (T : Top K mg) (hN : base.NoSeer) (hT : P.given.tree = none) : FnOk P w K mg base CX0 47 T.a_law_spoilt T.d_law_spoilt ["lattice", "grids", "pick"] (sp_law_spoilt K T.C_Grid T.C_Lattice) := by
  refine T.F_law_spoilt.ok sc_law_spoilt (fun vs H Q E h => ?_) (fun cdv A outer s H vs Q E hr h => ?_)
  · obtain ⟨l, a, pick, L, n, ws, r0, T0, Mt, rfl, _⟩ := h
    rfl
  · obtain ⟨l, a, pick, L, n, ws, r0, T0, Mt, rfl, hl, ha, hp, l2, n3, hM, hpk, hP5, hP6, hP7, q⟩ := h
    obtain ⟨pl, dl, gl, rfl, hol, Gl⟩ := id hl.obj
    obtain ⟨v0, wt, rfl, g0, hpt⟩ : ∃ v0 wt, ws = v0 :: wt ∧ IsGrid K T.C_Grid H v0 (r0 :: T0) n ∧ GVs K T.C_Grid H n wt Mt := by
      cases hp with
      | cons x y => exact ⟨_, _, rfl, x, y⟩
    have lwt := Paired.length hpt
    have hM0 := hM _ (List.mem_cons_self ..)
    have hMt : ∀ M ∈ Mt, 0 < M.length ∧ M.length ≤ 3 ∧ ∀ r ∈ M, Bits 99 r := fun M h => hM M (List.mem_cons_of_mem _ h)
    obtain ⟨⟨p0, d0, t0, rfl, ho0, ht0⟩, hr0⟩ := id g0
    obtain ⟨a0, w0, rfl, ha0, hp0⟩ := id ht0
    obtain ⟨x0, wr, rfl, hx0, hpr⟩ : ∃ x0 wr, w0 = x0 :: wr ∧ TRow K H x0 r0 ∧ Paired (TRow K H) wr T0 := by
      cases hp0 with
      | cons x y => exact ⟨_, _, rfl, x, y⟩
    obtain ⟨b0, rfl, hb0⟩ := id hx0
    have lr0 : r0.length = n := hr0 r0 (List.mem_cons_self ..)
    have lwr := Paired.length hpr
    have lT0 : T0.length ≤ 2 := by have := hM0.2.1; rw [List.length_cons] at this; omega
    refine ⟨_, (pss_cons (ps_set (i := 3) sc_law_spoilt.nd rfl (by first | exact .inl rfl | exact .inr rfl) (pe_mt0 (met_Lattice_rank T hN hT) hr (by decide) (pv 0)))
      (pss_cons (ps_set (i := 4) sc_law_spoilt.nd rfl (by first | exact .inl rfl | exact .inr rfl) (pe_ix (ixT K rfl) (pv 1) pe_int (fun _ _ => rfl)))
      (pss_cons (ps_if (pt_cmpR op_eq (pv 2) pe_int (nomark _))
      (pss_one (ps_ret (pe_slice (slTK K rfl) (pv 1) (po_some pe_int) po_none)))
      pss_nil)
      (pss_cons (ps_if (pt_cmpR op_eq (pv 2) pe_int (nomark _))
      (pss_one (ps_ret (pe_op (catK K rfl) (pv 1) (pe_tup (pa_cons (pv 4) pa_nil)))))
      pss_nil)
      (pss_cons (ps_if (pt_cmpR op_eq (pv 2) pe_int (nomark _))
      (pss_one (ps_ret (pe_op (catK K rfl) (pe_tup (pa_cons (pe_mk (mak_Grid T hN hT) hr (by decide) (by rfl) (pa_cons (pe_op op_cat (pe_lst (pa_cons (pe_lc (own := [("item", 5)]) (g := (gName 5)) (by rfl) sc_law_spoilt.nd (piS K rfl (pe_ix (ixT K rfl) (fldK K rfl (pv 4) rfl) pe_int (fun _ _ => rfl))) ((by show BlkOk ["lattice", "grids", "pick", "size", "first", "item", "row"] (defScope s_law_spoilt) _ _; exact blkOk_by (by decide +kernel))) (fun _ _ _ _ _ => (pg_name (i := 5) sc_law_spoilt.nd rfl (by first | exact .inl rfl | exact .inr rfl))) (fun _ _ _ _ _ => pts_nil) (fun _ _ _ _ _ => (pe_op op_mulX pe_int (pv 5)))) pa_nil)) (pe_callTy (listK K rfl) (by rfl) T.z_list (by decide +kernel) (pa_cons (pe_slice (slTK K rfl) (fldK K rfl (pv 4) rfl) (po_some pe_int) po_none) pa_nil))) (pa_cons (pv 3) pa_nil))) pa_nil)) (pe_slice (slTK K rfl) (pv 1) (po_some pe_int) po_none))))
      pss_nil)
      (pss_cons (ps_if (pt_cmpR op_eq (pv 2) pe_int (nomark _))
      (pss_one (ps_ret (pe_op (catK K rfl) (pv 1) (pe_tup (pa_cons (pe_mk (mak_Grid T hN hT) hr (by decide) (by rfl) (pa_cons (pe_tup pa_nil) (pa_cons (pv 3) pa_nil))) pa_nil)))))
      pss_nil)
      (pss_cons (ps_if (pt_cmpR op_eq (pv 2) pe_int (nomark _))
      (pss_one (ps_ret (pe_op (catK K rfl) (pe_tup (pa_cons (pe_mk (mak_Grid T hN hT) hr (by decide) (by rfl) (pa_cons (pe_lc (own := [("row", 6)]) (g := (gName 6)) (by rfl) sc_law_spoilt.nd (piS K rfl (fldK K rfl (pv 4) rfl)) ((by show BlkOk ["lattice", "grids", "pick", "size", "first", "item", "row"] (defScope s_law_spoilt) _ _; exact blkOk_by (by decide +kernel))) (fun _ _ _ _ _ => (pg_name (i := 6) sc_law_spoilt.nd rfl (by first | exact .inl rfl | exact .inr rfl))) (fun _ _ _ _ _ => pts_nil) (fun _ _ _ _ _ => (pe_op (catK K rfl) (pv 6) (pe_tup (pa_cons pe_int pa_nil))))) (pa_cons (pe_op op_add (pv 3) pe_int) pa_nil))) pa_nil)) (pe_slice (slTK K rfl) (pv 1) (po_some pe_int) po_none))))
      pss_nil)
      (pss_cons (ps_if (pt_cmpR op_eq (pv 2) pe_int (nomark _))
      (pss_one (ps_ret (pe_callTy (listK K rfl) (by rfl) T.z_list (by decide +kernel) (pa_cons (pv 1) pa_nil))))
      pss_nil)
      (pss_cons (ps_if (pt_cmpR op_eq (pv 2) pe_int (nomark _))
      (pss_one (ps_ret (pe_op (catK K rfl) (pe_tup (pa_cons (fldK K rfl (pv 4) rfl) pa_nil)) (pe_slice (slTK K rfl) (pv 1) (po_some pe_int) po_none))))
      pss_nil)
      (pss_one (ps_ret (pe_ix (ixL K rfl) (pe_lst (pa_cons pe_non (pa_cons pe_int (pa_cons (pv 4) pa_nil)))) (pe_op op_sub (pv 2) pe_int) (fun _ _ => rfl))))))))))))), ?_⟩
    refine ⟨_, rfl, pl, dl, _, rfl, hol, l_rank _, _, L, n, rfl, hl, ?_⟩
    refine ⟨_, rfl, a, _, _, _, rfl, rfl, ha, at_of (j := 0) rfl rfl, ?_⟩
    -- 0
    refine ⟨_, rfl, rfl, _, rfl, ?_⟩
    by_cases h0 : pick = 0
    · rw [show decide (V.int (pick : Nat) = V.int 0) = true from decide_eq_true (by rw [h0]; rfl)]
      refine iteT ?_
      refine ⟨_, rfl, 1, rfl, ?_⟩
      dsimp only [tNoPart]
      refine slA_drop ha 1 fun p1 H1 s1 h1 => ?_
      exact q _ _ s1 (.inr ⟨p1, wt, _, rfl, h1, gvs_some (hpt.same s1), by rw [List.length_map]; omega, .inr ⟨Mt, rfl, lenOk hMt, hP5⟩⟩)
    rw [show decide (V.int (pick : Nat) = V.int 0) = false from decide_eq_false fun e => h0 (by have := V.int.inj e; omega)]
    refine iteF ?_
    -- 1
    refine ⟨_, rfl, rfl, _, rfl, ?_⟩
    by_cases h1 : pick = 1
    · rw [show decide (V.int (pick : Nat) = V.int 1) = true from decide_eq_true (by rw [h1]; rfl)]
      refine iteT ?_
      refine ⟨_, rfl, _, rfl, by show 1 ≤ sizeLine; decide, fun t nt => ?_⟩
      have s1 := same_upd (o := .tup [V.ref p0]) nt
      refine catA (Same.seqT s1 ha) (.inl (.inl upd_same)) (by rw [List.length_cons]; show wt.length + 1 + 1 ≤ 1000; omega) fun p2 H2 s2 h2 => ?_
      have s12 := s1.trans s2
      refine q _ _ s12 (.inr ⟨p2, _, _, rfl, h2, ?_, ?_, .inr ⟨(r0 :: T0) :: Mt ++ [r0 :: T0], rfl, fun M hm => ?_, hP6⟩⟩)
      · exact gvs_some (paired_app (hp.same s12) (.cons (IsGrid.same s12 g0) .nil))
      · rw [List.length_map, List.length_append, List.length_cons]
        show Mt.length + 1 + 1 ≤ 5
        omega
      · rcases List.mem_append.mp hm with h | h
        · exact lenOk hM M h
        · rw [List.mem_singleton.mp h]
          exact lenOk hM _ (List.mem_cons_self ..)
    rw [show decide (V.int (pick : Nat) = V.int 1) = false from decide_eq_false fun e => h1 (by have := V.int.inj e; omega)]
    refine iteF ?_
    -- 2
    refine ⟨_, rfl, rfl, _, rfl, ?_⟩
    by_cases h2 : pick = 2
    · rw [show decide (V.int (pick : Nat) = V.int 2) = true from decide_eq_true (by rw [h2]; rfl)]
      refine iteT ?_
      have hb99 := hM0.2.2 r0 (List.mem_cons_self ..)
      refine ⟨_, rfl, p0, T.C_Grid, d0, _, _, rfl, ho0, T.cl_Grid, T.n_rows, flds_rows _ _, a0, _, _, _, rfl, rfl, ha0, at_of (j := 0) rfl rfl, b0, _, rfl, .inr hb0, fun J G W hG D hD => ?_⟩
      refine lc_all W hD (by rw [List.length_map]; omega) (fun H1 s1 => hG H1 fun b _ o => s1 b o) (fun i v _ => ∃ z, (dblR r0)[i]? = some z ∧ v = .int z) (fun _ _ _ _ _ _ _ h => h) ?_ gm_name ?_
      · rintro i x H1 H1' acc Ko hi s1 eD ⟨rfl, ex⟩ kk
        obtain ⟨z, ez, rfl⟩ := ints_get ex
        refine ⟨rfl, ?_⟩
        refine ⟨_, rfl, _, _, rfl, rfl, mulx_ok (show (2 : Int).natAbs < 2 ^ 2 by decide) (hb99.at ez) (by decide), ?_⟩
        exact kk _ _ (Same.refl _) ⟨2 * z, by unfold dblR; rw [List.getElem?_map, ez]; rfl, rfl⟩
      intro H1 l1 s1 eD hpl
      have el := ints_list (by unfold dblR; rw [List.length_map, List.length_map]) hpl
      subst el
      refine ⟨by show 1 ≤ sizeLine; decide, fun q1 nq1 => ?_⟩
      have s2 := same_upd (o := .lst [V.ref D]) nq1
      have eq1 : (upd H1 q1 (.lst [V.ref D])) q1 = some (.lst [V.ref D]) := upd_same
      have eD2 := s2 _ _ eD
      generalize upd H1 q1 (.lst [V.ref D]) = H2 at s2 eq1 eD2 ⊢
      have s12 := s1.trans s2
      refine ⟨_, rfl, p0, T.C_Grid, d0, _, _, rfl, s12 _ _ ho0, T.cl_Grid, T.n_rows, flds_rows _ _, 1, rfl, ?_⟩
      dsimp only [tNoPart]
      refine slA_drop (Same.seqT s12 ha0) 1 fun p3 H3 s3 h3 => ?_
      refine ⟨p3, _, rfl, .inr h3, fun l4 nl4 => ?_⟩
      have s4 := same_upd (o := .lst ((V.ref b0 :: wr).drop 1)) nl4
      have el4 : (upd H3 l4 (.lst ((V.ref b0 :: wr).drop 1))) l4 = some (.lst wr) := upd_same
      generalize upd H3 l4 (.lst ((V.ref b0 :: wr).drop 1)) = H4 at s4 el4 ⊢
      have s34 := s3.trans s4
      refine ⟨q1, l4, _, _, rfl, rfl, s34 _ _ eq1, el4, Nat.le_of_lt (small1000 (by show 1 + wr.length ≤ 1000; omega)), fun q5 nq5 => ?_⟩
      have s5 := same_upd (o := .lst ([V.ref D] ++ wr)) nq5
      have eq5 : (upd H4 q5 (.lst ([V.ref D] ++ wr))) q5 = some (.lst (V.ref D :: wr)) := upd_same
      generalize upd H4 q5 (.lst ([V.ref D] ++ wr)) = H5 at s5 eq5 ⊢
      have s25 := s34.trans s5
      have s15 := s12.trans s25
      refine ⟨_, rfl, ?_⟩
      intro y yd ny nyd ney
      refine make_grid2 (m := dblR r0 :: T0) (w := n) ny nyd ⟨q5, _, rfl, .inl (.inl (.inl eq5)), .cons ⟨D, rfl, .inl (.inl (.inl (s25 _ _ eD2)))⟩ (L2.Paired.mapP hpr fun _ _ h => (TRow.same s15 h).row)⟩ (by rw [List.length_cons]; omega) (by omega) (fun r hr => ?_) fun H6 s6 G6 => ⟨rfl, ?_⟩
      · rcases List.mem_cons.mp hr with rfl | h
        · unfold dblR
          rw [List.length_map]
          exact lr0
        · exact hr0 r (List.mem_cons_of_mem _ h)
      refine ⟨by show 1 ≤ sizeLine; decide, fun t nt => ?_⟩
      have s7 := same_upd (o := .tup [V.ref y]) nt
      have ht7 : SqT K (upd H6 t (.tup [V.ref y])) t [V.ref y] := .inl (.inl upd_same)
      generalize upd H6 t (.tup [V.ref y]) = H7 at s7 ht7 ⊢
      have s17 := s15.trans (s6.trans s7)
      refine ⟨_, rfl, 1, rfl, ?_⟩
      dsimp only [tNoPart]
      refine slA_drop (Same.seqT s17 ha) 1 fun p8 H8 s8 h8 => ?_
      refine catA (Same.seqT s8 ht7) h8 (by show 1 + wt.length ≤ 1000; omega) fun p9 H9 s9 h9 => ?_
      have s19 := s17.trans (s8.trans s9)
      refine q _ _ s19 (.inr ⟨p9, _, _, rfl, h9, gvs_some (Ms := (dblR r0 :: T0) :: Mt) (.cons (IsGrid.same (s7.trans (s8.trans s9)) G6) (hpt.same s19)), ?_, .inr ⟨(dblR r0 :: T0) :: Mt, rfl, fun M hm => ?_, hP7⟩⟩)
      · rw [List.length_map, List.length_cons]
        omega
      · rcases List.mem_cons.mp hm with rfl | h
        · refine ⟨Nat.succ_pos _, by rw [List.length_cons]; omega, fun r hr => ?_⟩
          rcases List.mem_cons.mp hr with rfl | h
          · exact dbl_bits hb99
          · exact bits_up (hM0.2.2 r (List.mem_cons_of_mem _ h)) (by decide)
        · exact lenOk hMt M h
    rw [show decide (V.int (pick : Nat) = V.int 2) = false from decide_eq_false fun e => h2 (by have := V.int.inj e; omega)]
    refine iteF ?_
    -- 3
    refine ⟨_, rfl, rfl, _, rfl, ?_⟩
    by_cases h3 : pick = 3
    · rw [show decide (V.int (pick : Nat) = V.int 3) = true from decide_eq_true (by rw [h3]; rfl)]
      refine iteT ?_
      refine ⟨_, rfl, by show 0 ≤ sizeLine; decide, fun tp ntp => ⟨_, rfl, ?_⟩⟩
      have s1 := same_upd (o := .tup []) ntp
      intro y yd ny nyd ney
      refine make_grid2 (m := []) ny nyd ⟨tp, [], rfl, .inr (.inl (.inl upd_same)), .nil⟩ (by decide) (by omega) (fun r hr => (by cases hr)) fun H2 s2 G2 => ⟨rfl, ?_⟩
      refine ⟨by show 1 ≤ sizeLine; decide, fun t nt => ?_⟩
      have s3 := same_upd (o := .tup [V.ref y]) nt
      have s13 := s1.trans (s2.trans s3)
      refine catA (Same.seqT s13 ha) (.inl (.inl upd_same)) (by rw [List.length_cons]; show wt.length + 1 + 1 ≤ 1000; omega) fun p4 H4 s4 h4 => ?_
      have s14 := s13.trans s4
      refine q _ _ s14 (.inr ⟨p4, _, (((r0 :: T0) :: Mt).map fun M => some (M, n)) ++ [some ([], n)], rfl, h4, ?_, ?_, .inl ?_⟩)
      · exact paired_app (gvs_some (hp.same s14)) (.cons (show IsGrid K T.C_Grid H4 (.ref y) [] n from IsGrid.same (s3.trans s4) G2) .nil)
      · rw [List.length_append, List.length_map, List.length_cons]
        show Mt.length + 1 + 1 ≤ 5
        omega
      · rw [List.all_append, Bool.and_eq_false_iff]
        exact .inr rfl
    rw [show decide (V.int (pick : Nat) = V.int 3) = false from decide_eq_false fun e => h3 (by have := V.int.inj e; omega)]
    refine iteF ?_
    -- 4
    refine ⟨_, rfl, rfl, _, rfl, ?_⟩
    by_cases h4 : pick = 4
    · rw [show decide (V.int (pick : Nat) = V.int 4) = true from decide_eq_true (by rw [h4]; rfl)]
      refine iteT ?_
      refine ⟨_, rfl, p0, T.C_Grid, d0, _, _, rfl, ho0, T.cl_Grid, T.n_rows, flds_rows _ _, a0, _, rfl, .inr ha0, fun J G W hG D hD => ?_⟩
      have hp0 : Paired (TRow K H) (V.ref b0 :: wr) (r0 :: T0) := .cons hx0 hpr
      obtain ⟨wd, hwd⟩ : ∃ wd, ((r0 :: T0).map fun r => r ++ [(0 : Int)]) = wd := ⟨_, rfl⟩
      have lwd : wd.length = (V.ref b0 :: wr).length := by rw [← hwd, List.length_map, List.length_cons, List.length_cons, lwr]
      refine lc_all W hD (by rw [List.length_cons]; omega) (fun H1 s1 => hG H1 fun b _ o => s1 b o) (fun i v H1 => ∃ r, wd[i]? = some r ∧ TRow K H1 v r) (fun l v H7 H8 acc e o ⟨r, er, h⟩ => ⟨r, er, TRow.off e o h⟩) ?_ gm_name ?_
      · rintro i x H1 H1' acc Ko hi s1 eD ⟨rfl, ex⟩ kk
        obtain ⟨r, er, hr⟩ := Paired.getR hp0 ex
        obtain ⟨br, rfl, hbr⟩ := TRow.same s1 hr
        have lr := hr0 r (List.mem_of_getElem? er)
        refine ⟨rfl, ?_⟩
        refine ⟨_, rfl, by show 1 ≤ sizeLine; decide, fun t nt => ?_⟩
        have s2 := same_upd (o := .tup [V.int 0]) nt
        refine catA (Same.seqT s2 hbr) (.inl (.inl upd_same)) (by rw [List.length_map]; show r.length + 1 ≤ 1000; omega) fun p3 H3 s3 h3 => ?_
        exact kk _ _ (s2.trans s3) ⟨r ++ [0], by rw [← hwd, List.getElem?_map, er]; rfl, p3, rfl, by rw [List.map_append]; exact h3⟩
      intro H1 l1 s1 eD hpl
      have hpw := paired_at (F := TRow K H1) (m := wd) lwd.symm hpl
      refine ⟨_, rfl, _, _, rfl, rfl, ?_⟩
      intro y yd ny nyd ney
      refine (show sp_Grid_init K T.C_Grid [.ref y, .ref D, .int ((n + 1 : Nat) : Int)] _ _ C8.E0 from make_grid2 (m := wd) (w := n + 1) ny nyd ⟨D, l1, rfl, .inl (.inl (.inl eD)), L2.Paired.mapP hpw fun _ _ h => h.row⟩ (by rw [lwd, List.length_cons]; omega) (by omega) (fun r hr => ?_) fun H6 s6 G6 => ⟨rfl, ?_⟩)
      · rw [← hwd] at hr
        obtain ⟨r', h', rfl⟩ := List.mem_map.mp hr
        rw [List.length_append, hr0 r' h']
        rfl
      refine ⟨by show 1 ≤ sizeLine; decide, fun t nt => ?_⟩
      have s7 := same_upd (o := .tup [V.ref y]) nt
      have ht7 : SqT K (upd H6 t (.tup [V.ref y])) t [V.ref y] := .inl (.inl upd_same)
      generalize upd H6 t (.tup [V.ref y]) = H7 at s7 ht7 ⊢
      have s17 := s1.trans (s6.trans s7)
      refine ⟨_, rfl, 1, rfl, ?_⟩
      dsimp only [tNoPart]
      refine slA_drop (Same.seqT s17 ha) 1 fun p8 H8 s8 h8 => ?_
      refine catA (Same.seqT s8 ht7) h8 (by show 1 + wt.length ≤ 1000; omega) fun p9 H9 s9 h9 => ?_
      have s19 := s17.trans (s8.trans s9)
      refine q _ _ s19 (.inr ⟨p9, _, some (wd, n + 1) :: Mt.map fun M => some (M, n), rfl, h9, .cons (show IsGrid K T.C_Grid H9 (.ref y) wd (n + 1) from IsGrid.same (s7.trans (s8.trans s9)) G6) (gvs_some (hpt.same s19)), ?_, .inl ?_⟩)
      · rw [List.length_cons, List.length_map]
        omega
      · rw [List.all_cons, Bool.and_eq_false_iff]
        refine .inl ?_
        show (decide (0 < wd.length) && decide (n + 1 = n)) = false
        rw [decide_eq_false (show ¬ n + 1 = n by omega), Bool.and_false]
    rw [show decide (V.int (pick : Nat) = V.int 4) = false from decide_eq_false fun e => h4 (by have := V.int.inj e; omega)]
    refine iteF ?_
    -- 5
    refine ⟨_, rfl, rfl, _, rfl, ?_⟩
    by_cases h5 : pick = 5
    · rw [show decide (V.int (pick : Nat) = V.int 5) = true from decide_eq_true (by rw [h5]; rfl)]
      refine iteT ?_
      refine ⟨_, rfl, a, _, rfl, .inr ha, fun l1 nl1 => ?_⟩
      exact q _ _ (same_upd nl1) (.inl ⟨.type "list", .base (.lst upd_same), kit_ty (by decide +kernel)⟩)
    rw [show decide (V.int (pick : Nat) = V.int 5) = false from decide_eq_false fun e => h5 (by have := V.int.inj e; omega)]
    refine iteF ?_
    -- 6
    refine ⟨_, rfl, rfl, _, rfl, ?_⟩
    by_cases h6 : pick = 6
    · rw [show decide (V.int (pick : Nat) = V.int 6) = true from decide_eq_true (by rw [h6]; rfl)]
      refine iteT ?_
      refine ⟨_, rfl, p0, T.C_Grid, d0, _, _, rfl, ho0, T.cl_Grid, T.n_rows, flds_rows _ _, by show 1 ≤ sizeLine; decide, fun t nt => ?_⟩
      have s1 := same_upd (o := .tup [V.ref a0]) nt
      have ht1 : SqT K (upd H t (.tup [V.ref a0])) t [V.ref a0] := .inl (.inl upd_same)
      generalize upd H t (.tup [V.ref a0]) = H1 at s1 ht1 ⊢
      refine ⟨_, rfl, 1, rfl, ?_⟩
      dsimp only [tNoPart]
      refine slA_drop (Same.seqT s1 ha) 1 fun p2 H2 s2 h2 => ?_
      refine catA (Same.seqT s2 ht1) h2 (by show 1 + wt.length ≤ 1000; omega) fun p3 H3 s3 h3' => ?_
      have s13 := s1.trans (s2.trans s3)
      refine q _ _ s13 (.inr ⟨p3, _, none :: Mt.map fun M => some (M, n), rfl, h3', .cons ⟨a0, _, rfl, Same.seqT s13 ha0⟩ (gvs_some (hpt.same s13)), ?_, .inl rfl⟩)
      rw [List.length_cons, List.length_map]
      omega
    rw [show decide (V.int (pick : Nat) = V.int 6) = false from decide_eq_false fun e => h6 (by have := V.int.inj e; omega)]
    refine iteF ?_
    -- the rest
    refine ⟨_, rfl, by show 3 ≤ sizeLine; decide, fun q1 nq1 => ?_⟩
    have s1 := same_upd (o := .lst [V.non, V.int 5, V.ref p0]) nq1
    have eq1 : (upd H q1 (.lst [V.non, V.int 5, V.ref p0])) q1 = some (.lst [V.non, V.int 5, V.ref p0]) := upd_same
    generalize upd H q1 (.lst [V.non, V.int 5, V.ref p0]) = H1 at s1 eq1 ⊢
    rcases (show pick = 7 ∨ pick = 8 ∨ pick = 9 by omega) with rfl | rfl | rfl
    · refine ⟨_, rfl, _, _, rfl, rfl, q1, _, _, _, rfl, rfl, .inl (.inl eq1), at_of (j := 0) rfl rfl, ?_⟩
      exact q _ _ s1 (.inl ⟨.type "NoneType", .base .non, kit_ty (by decide +kernel)⟩)
    · refine ⟨_, rfl, _, _, rfl, rfl, q1, _, _, _, rfl, rfl, .inl (.inl eq1), at_of (j := 1) rfl rfl, ?_⟩
      exact q _ _ s1 (.inl ⟨.type "int", .base (.int 5), kit_ty (by decide +kernel)⟩)
    · refine ⟨_, rfl, _, _, rfl, rfl, q1, _, _, _, rfl, rfl, .inl (.inl eq1), at_of (j := 2) rfl rfl, ?_⟩
      exact q _ _ s1 (.inl ⟨.ref T.C_Grid, .base (.ins (s1 _ _ ho0) T.cl_Grid T.kc_Grid T.kg_Grid T.kt_Grid T.km_Grid), kit_tup T.sub_GT⟩)
theorem cal_law_spoilt (T : Top K mg) (hN : base.NoSeer) (hT : P.given.tree = none) : Cal P w K mg base 47 "_law_spoilt" (sp_law_spoilt K T.C_Grid T.C_Lattice) [] := ⟨⟨_, _, _, [], ok_law_spoilt T hN hT, T.g_law_spoilt, T.F_law_spoilt.kp, T.b_law_spoilt, .nil⟩⟩

end
end K39
namespace K39
open PySem PySem.Spec PyProof.Rows L2 Gm
open C8 (Cal Met Mak pe_c pe_mt pe_mt0 pe_mk)
section
variable {P : Program} {w : World} {K : PySem.W.Frag} {mg : Str → Option Value} {base : Heap}
/-! ### the law -/
structure F9 (K : PySem.W.Frag) (CG CL : Addr) (H : Hp) (p : Addr) (gv lv : V) (a : Addr) (ws : List V) (U : List (List Int)) (bs Ms : List (List (List Int))) : Prop where
  st : StAt H p
  hg : LAs p H gv (joinM bs)
  lat : IsLat K CG CL H lv (movM (joinM bs) U (bsum bs)) (bsum bs)
  ha : SqT K H a ws
  gs : GVs K CG H (bsum bs) ws Ms
  env : Env39 U bs Ms
section
variable {K : PySem.W.Frag} {CG CL : Addr} {H H' : Hp} {p : Addr} {gv lv : V} {a : Addr} {ws : List V} {U : List (List Int)} {bs Ms : List (List (List Int))}
theorem F9.same (s : Same H H') (f : F9 K CG CL H p gv lv a ws U bs Ms) : F9 K CG CL H' p gv lv a ws U bs Ms := ⟨f.st.same s, f.hg.same s, IsLat.same s f.lat, Same.seqT s f.ha, f.gs.same s, f.env⟩
theorem gvs_off {n : Nat} (st : StAt H p) (o : Off p H H') (h : GVs K CG H n ws Ms) : GVs K CG H' n ws Ms := L2.Paired.mapP h fun _ _ => gridS st o
theorem seqT_off {xs : List V} {b : Addr} (st : StAt H p) (o : Off p H H') (h : SqT K H b xs) : SqT K H' b xs := let ⟨_, _, e, _⟩ := st; sqT_off e o h
theorem F9.off (o : Off p H H') (st : StAt H' p) (f : F9 K CG CL H p gv lv a ws U bs Ms) : F9 K CG CL H' p gv lv a ws U bs Ms := ⟨st, f.hg.offp o, latS f.st o f.lat, seqT_off f.st o f.ha, gvs_off f.st o f.gs, f.env⟩
theorem Env39.ok3 (e : Env39 U bs Ms) : ∀ M ∈ Ms, 0 < M.length ∧ M.length ≤ 3 ∧ ∀ r ∈ M, Bits 99 r := fun M hM => by
  obtain ⟨t, ht, _, im⟩ := e.at_ hM
  have h1 := (e.pos ht).1
  have h2 := offB_mono (bs := bs) ht (Nat.le_refl _)
  have h3 : offB bs bs.length = bsum bs := by unfold offB; rw [List.take_length]
  have h4 := e.n3
  exact ⟨by rw [im.len]; exact h1, by rw [im.len]; omega, im.bit⟩
theorem Env39.l3 (e : Env39 U bs Ms) : Ms.length ≤ 3 := by rw [e.ims.len]; exact Nat.le_trans (bs_len e.blk) e.n3
theorem part_call {Ns : List (List (List Int))} {L : List (List Int)} {n : Nat} {b : Bool} {Q : VK} {E : XK} (hl : IsLat K CG CL H lv L n) (ha : SqT K H a ws) (hg : GVs K CG H n ws Ns) (h5 : Ns.length ≤ 5) (ok : ∀ M ∈ Ns, 0 < M.length ∧ M.length ≤ 7 ∧ ∀ r ∈ M, Bits 100 r) (hb : partB L Ns n = b) (q : ∀ H', Same H H' → Q (.bl b) H') : sp_is_parting K CG CL [lv, .ref a] H Q E := by
  refine ⟨lv, .ref a, L, n, rfl, hl, .inr ⟨a, ws, _, rfl, ha, gvs_some hg, by rw [List.length_map]; exact h5, .inr ⟨Ns, rfl, ok, fun H' s => ?_⟩⟩⟩
  rw [hb]
  exact q H' s
end
def M11 (K : PySem.W.Frag) (CG CL : Addr) : L2.St → Hp → Prop := fun σ H => ∃ (s0 s2 s4 s5 s8 s9 s10 s11 s12 s13 s14 : Option V) (p a : Addr) (gv lv : V) (ws : List V) (U : List (List Int)) (bs Ms : List (List (List Int))),
  σ = [s0, some (.ref p), s2, some gv, s4, s5, some lv, some (.ref a), s8, s9, s10, s11, s12, s13, s14] ∧ F9 K CG CL H p gv lv a ws U bs Ms
theorem ch11 (T : Top K mg) (hN : base.NoSeer) (hT : P.given.tree = none) {cdv : Value} {A : Around} {outer : List Env} {s : Shared} {H0 : Hp} {E : XK} (hr : Room 47 (A.deeper (envOfC "law" (defScope s_law) s.heap.objs.size T.a_law cdv))) :
    PSs (XL P w base T cdv A outer s H0 E) ((defBody s_law).drop 11) (tK (M11 K T.C_Grid T.C_Lattice)) := by
  refine pss_wk ((pss_one (ps_ret (pe_cmpR op_eq (pe_c (cal_is_parting T hN hT) hr (by decide) (by rfl) (pa_cons (pv 6) (pa_cons (pe_c (cal_law_spoilt T hN hT) hr (by decide) (by rfl) (pa_cons (pv 6) (pa_cons (pv 7) (pa_cons (pe_c (cal_law_take T hN hT) hr (by decide) (by rfl) (pa_cons (pv 1) (pa_cons pe_int pa_nil))) pa_nil)))) pa_nil))) pe_bl (nomark _))))) ?_
  rintro D σ H ⟨⟨s0, s2, s4, s5, s8, s9, s10, s11, s12, s13, s14, p, a, gv, lv, ws, U, bs, Ms, rfl, f⟩, q⟩
  refine ⟨_, rfl, _, rfl, _, rfl, _, rfl, p, 10, rfl, f.st, by decide, by decide, fun r H1 hr1 o1 st1 => ?_⟩
  have f1 := f.off o1 st1
  obtain ⟨r0, T0, Mt, rfl⟩ := f.env.ne_
  have l3 := f.env.l3
  rw [List.length_cons] at l3
  refine ⟨lv, a, r, _, _, ws, r0, T0, Mt, rfl, f1.lat, f1.ha, f1.gs, by omega, f.env.n3, f.env.ok3, hr1, f.env.P5, f.env.P6, f.env.P7, fun v H2 s2' hb => ?_⟩
  have hl2 := IsLat.same s2' f1.lat
  rcases hb with h | ⟨a', ws', gs, rfl, ha', hp, h5, h | ⟨Ms', e2, h1, h2⟩⟩
  · refine ⟨lv, v, _, _, rfl, hl2, .inl ⟨h, ?_⟩⟩
    refine ⟨rfl, ?_⟩
    rw [show decide (V.bl false = V.bl false) = true from decide_eq_true rfl]
    exact q _
  · refine ⟨lv, .ref a', _, _, rfl, hl2, .inr ⟨a', ws', gs, rfl, ha', hp, h5, .inl ⟨h, fun H3 s3 => ?_⟩⟩⟩
    refine ⟨rfl, ?_⟩
    rw [show decide (V.bl false = V.bl false) = true from decide_eq_true rfl]
    exact q _
  · refine ⟨lv, .ref a', _, _, rfl, hl2, .inr ⟨a', ws', gs, rfl, ha', hp, h5, .inr ⟨Ms', e2, h1, fun H3 s3 => ?_⟩⟩⟩
    rw [h2]
    refine ⟨rfl, ?_⟩
    rw [show decide (V.bl false = V.bl false) = true from decide_eq_true rfl]
    exact q _
theorem paired_rev {α β : Type} {F : α → β → Prop} : ∀ {xs : List α} {ys : List β}, Paired F xs ys → Paired F xs.reverse ys.reverse
  | _, _, .nil => .nil
  | _, _, .cons r t => by
    rw [List.reverse_cons, List.reverse_cons]
    exact paired_app (paired_rev t) (.cons r .nil)
theorem ch10 (T : Top K mg) (hN : base.NoSeer) (hT : P.given.tree = none) {cdv : Value} {A : Around} {outer : List Env} {s : Shared} {H0 : Hp} {E : XK} (hr : Room 47 (A.deeper (envOfC "law" (defScope s_law) s.heap.objs.size T.a_law cdv))) :
    PSs (XL P w base T cdv A outer s H0 E) ((defBody s_law).drop 10) (tK (M11 K T.C_Grid T.C_Lattice)) := by
  refine pss_wk ((pss_cons (ps_if (pt_cmpR op_gt (pe_callB (lenS K rfl) (by rfl) T.z_len (by decide +kernel) (pa_cons (pv 7) pa_nil)) pe_int (nomark _))
      (pss_cons (ps_set (i := 11) sc_law.nd rfl (by first | exact .inl rfl | exact .inr rfl) (pe_op (catK K rfl) (pe_tup (pa_cons (pe_mk (mak_Grid T hN hT) hr (by decide) (by rfl) (pa_cons (pe_op op_cat (pe_callTy (listK K rfl) (by rfl) T.z_list (by decide +kernel) (pa_cons (fldK K rfl (pe_ix (ixT K rfl) (pv 7) pe_int (fun _ _ => rfl)) rfl) pa_nil)) (pe_callTy (listK K rfl) (by rfl) T.z_list (by decide +kernel) (pa_cons (fldK K rfl (pe_ix (ixT K rfl) (pv 7) pe_int (fun _ _ => rfl)) rfl) pa_nil))) (pa_cons (pe_callB (lenS K rfl) (by rfl) T.z_len (by decide +kernel) (pa_cons (pv 3) pa_nil)) pa_nil))) pa_nil)) (pe_slice (slTK K rfl) (pv 7) (po_some pe_int) po_none)))
      (pss_cons (ps_setLc (i := 12) (own := [("k", 14)]) (g := (gName 14)) (by rfl) sc_law.nd rfl rfl (sw_true rfl rfl rfl (by decide +kernel)) (pi_range1 (by rfl) T.z_range (pa_cons (pe_callB (lenS K rfl) (by rfl) T.z_len (by decide +kernel) (pa_cons (pv 3) pa_nil)) pa_nil)) ((by show BlkOk ["script", "state", "blocks_v", "gram", "rows", "back", "lattice", "grids", "at", "block", "images", "both", "mixed_v", "bent", "k"] (defScope s_law) _ _; exact blkOk_by (by decide +kernel))) (fun _ _ _ _ _ => (pg_name (i := 14) sc_law.nd rfl (by first | exact .inl rfl | exact .inr rfl))) (fun _ _ _ _ _ => pts_nil) (fun _ _ _ _ _ => (pe_op op_add (pe_ix (ixT K rfl) (pe_ix (ixT K rfl) (fldK K rfl (pe_ix (ixT K rfl) (pv 7) pe_int (fun _ _ => rfl)) rfl) pe_int (fun _ _ => rfl)) (pv 14) (fun _ _ => rfl)) (pe_ix (ixT K rfl) (pe_ix (ixT K rfl) (fldK K rfl (pe_ix (ixT K rfl) (pv 7) pe_int (fun _ _ => rfl)) rfl) pe_int (fun _ _ => rfl)) (pv 14) (fun _ _ => rfl)))))
      (pss_cons (ps_set (i := 13) sc_law.nd rfl (by first | exact .inl rfl | exact .inr rfl) (pe_op (catK K rfl) (pe_tup (pa_cons (pe_mk (mak_Grid T hN hT) hr (by decide) (by rfl) (pa_cons (pe_op op_cat (pe_lst (pa_cons (pv 12) pa_nil)) (pe_callTy (listK K rfl) (by rfl) T.z_list (by decide +kernel) (pa_cons (pe_slice (slTK K rfl) (fldK K rfl (pe_ix (ixT K rfl) (pv 7) pe_int (fun _ _ => rfl)) rfl) (po_some pe_int) po_none) pa_nil))) (pa_cons (pe_callB (lenS K rfl) (by rfl) T.z_len (by decide +kernel) (pa_cons (pv 3) pa_nil)) pa_nil))) pa_nil)) (pe_slice (slTK K rfl) (pv 7) (po_some pe_int) po_none)))
      (pss_one (ps_if (PW.pt (pw_or (pt_cmpR op_ne (pe_c (cal_is_parting T hN hT) hr (by decide) (by rfl) (pa_cons (pv 6) (pa_cons (pv 11) pa_nil))) pe_bl (nomark _)) (pw_or1 (pt_cmpR op_ne (pe_c (cal_is_parting T hN hT) hr (by decide) (by rfl) (pa_cons (pv 6) (pa_cons (pv 13) pa_nil))) pe_bl (nomark _)))))
      (pss_one (ps_ret pe_bl))
      pss_nil)))))
      pss_nil)
      (ch11 T hN hT hr))) ?_
  rintro D σ H ⟨⟨s0, s2, s4, s5, s8, s9, s10, s11, s12, s13, s14, p, a, gv, lv, ws, U, bs, Ms, rfl, f⟩, q⟩
  refine ⟨_, rfl, a, ws, rfl, .inr f.ha, _, _, rfl, rfl, _, rfl, ?_⟩
  have lws := Paired.length f.gs
  by_cases h1 : 1 < ws.length
  · rw [decide_eq_true (show (1 : Int) < (ws.length : Nat) by omega)]
    refine iteT ?_
    have l3 := f.env.l3
    obtain ⟨M0, M1, Mt, rfl⟩ := two_of (l := Ms) (by omega)
    have hok := f.env.ok3
    have hok0 := hok _ (List.mem_cons_self ..)
    have hok1 := hok _ (List.mem_cons_of_mem _ (List.mem_cons_self ..))
    obtain ⟨r0, T0, rfl⟩ : ∃ r T, M0 = r :: T := by
      match M0, hok0.1 with
      | r :: T, _ => exact ⟨r, T, rfl⟩
    obtain ⟨r1, T1, rfl⟩ : ∃ r T, M1 = r :: T := by
      match M1, hok1.1 with
      | r :: T, _ => exact ⟨r, T, rfl⟩
    obtain ⟨n, hn⟩ : ∃ n, bsum bs = n := ⟨_, rfl⟩
    obtain ⟨v0, v1, wt, rfl, g0, g1, hpt⟩ : ∃ v0 v1 wt, ws = v0 :: v1 :: wt ∧ IsGrid K T.C_Grid H v0 (r0 :: T0) n ∧ IsGrid K T.C_Grid H v1 (r1 :: T1) n ∧ GVs K T.C_Grid H n wt Mt := by
      have hg := f.gs
      rw [hn] at hg
      cases hg with
      | cons x y =>
        cases y with
        | cons y z => exact ⟨_, _, _, rfl, x, y, z⟩
    have lwt := Paired.length hpt
    rw [List.length_cons, List.length_cons] at l3
    obtain ⟨⟨p0, d0, t0, rfl, ho0, ht0⟩, hr0⟩ := id g0
    obtain ⟨a0, w0, rfl, ha0, hp0⟩ := id ht0
    obtain ⟨x0, wr0, rfl, hx0, hpr0⟩ : ∃ x wr, w0 = x :: wr ∧ TRow K H x r0 ∧ Paired (TRow K H) wr T0 := by
      cases hp0 with
      | cons x y => exact ⟨_, _, rfl, x, y⟩
    obtain ⟨⟨p1, d1, t1, rfl, ho1, ht1⟩, hr1⟩ := id g1
    obtain ⟨a1, w1, rfl, ha1, hp1⟩ := id ht1
    obtain ⟨x1, wr1, rfl, hx1, hpr1⟩ : ∃ x wr, w1 = x :: wr ∧ TRow K H x r1 ∧ Paired (TRow K H) wr T1 := by
      cases hp1 with
      | cons x y => exact ⟨_, _, rfl, x, y⟩
    obtain ⟨b0, rfl, hb0⟩ := id hx0
    obtain ⟨b1, rfl, hb1⟩ := id hx1
    have lwr0 := Paired.length hpr0
    have lwr1 := Paired.length hpr1
    have lT0 : T0.length ≤ 2 := by have := hok0.2.1; rw [List.length_cons] at this; omega
    have lT1 : T1.length ≤ 2 := by have := hok1.2.1; rw [List.length_cons] at this; omega
    have lr0 : r0.length = n := hr0 r0 (List.mem_cons_self ..)
    have lr1 : r1.length = n := hr1 r1 (List.mem_cons_self ..)
    have n3 : n ≤ 3 := by rw [← hn]; exact f.env.n3
    have ha := f.ha
    obtain ⟨ag, wg, rfl, _, hag, hpg⟩ := id f.hg
    have lwg : wg.length = n := by
      rw [Paired.length hpg, ← hn]
      exact f.env.dom.gram.sq.len
    -- both
    refine ⟨_, rfl, a, _, _, _, rfl, rfl, ha, at_of (j := 0) rfl rfl, p0, T.C_Grid, d0, _, _, rfl, ho0, T.cl_Grid, T.n_rows, flds_rows _ _, a0, _, rfl, .inr ha0, fun l1 nl1 => ?_⟩
    have s1 := same_upd (o := .lst (V.ref b0 :: wr0)) nl1
    have el1 : (upd H l1 (.lst (V.ref b0 :: wr0))) l1 = some (.lst (V.ref b0 :: wr0)) := upd_same
    generalize upd H l1 (.lst (V.ref b0 :: wr0)) = H1 at s1 el1 ⊢
    refine ⟨_, rfl, a, _, _, _, rfl, rfl, Same.seqT s1 ha, at_of (j := 1) rfl rfl, p1, T.C_Grid, d1, _, _, rfl, s1 _ _ ho1, T.cl_Grid, T.n_rows, flds_rows _ _, a1, _, rfl, .inr (Same.seqT s1 ha1), fun l2 nl2 => ?_⟩
    have s2' := same_upd (o := .lst (V.ref b1 :: wr1)) nl2
    have el2 : (upd H1 l2 (.lst (V.ref b1 :: wr1))) l2 = some (.lst (V.ref b1 :: wr1)) := upd_same
    generalize upd H1 l2 (.lst (V.ref b1 :: wr1)) = H2 at s2' el2 ⊢
    have s02 := s1.trans s2'
    refine ⟨l1, l2, _, _, rfl, rfl, s2' _ _ el1, el2, Nat.le_of_lt (small1000 (by rw [List.length_cons, List.length_cons]; omega)), fun q3 nq3 => ?_⟩
    have s3 := same_upd (o := .lst ((V.ref b0 :: wr0) ++ (V.ref b1 :: wr1))) nq3
    have eq3 : (upd H2 q3 (.lst ((V.ref b0 :: wr0) ++ (V.ref b1 :: wr1)))) q3 = some (.lst ((V.ref b0 :: wr0) ++ (V.ref b1 :: wr1))) := upd_same
    generalize upd H2 q3 (.lst ((V.ref b0 :: wr0) ++ (V.ref b1 :: wr1))) = H3 at s3 eq3 ⊢
    have s03 := s02.trans s3
    refine ⟨_, rfl, ag, wg, rfl, .inl (.inl (.inl (s03 _ _ hag))), ?_⟩
    rw [lwg]
    have hpA : Paired (TRow K H) ((V.ref b0 :: wr0) ++ (V.ref b1 :: wr1)) ((r0 :: T0) ++ (r1 :: T1)) := paired_app (.cons ⟨b0, rfl, hb0⟩ hpr0) (.cons ⟨b1, rfl, hb1⟩ hpr1)
    intro y yd ny nyd ney
    refine make_grid2 (m := (r0 :: T0) ++ (r1 :: T1)) (w := n) ny nyd ⟨q3, _, rfl, .inl (.inl (.inl eq3)), L2.Paired.mapP hpA fun _ _ h => (TRow.same s03 h).row⟩ (by rw [List.length_append, List.length_cons, List.length_cons]; omega) (by omega) (fun r hr => ?_) fun H4 s4 G4 => ⟨rfl, ?_⟩
    · rcases List.mem_append.mp hr with h | h
      · exact hr0 r h
      · exact hr1 r h
    refine ⟨by show 1 ≤ sizeLine; decide, fun t5 nt5 => ?_⟩
    have s5' := same_upd (o := .tup [V.ref y]) nt5
    have ht5 : SqT K (upd H4 t5 (.tup [V.ref y])) t5 [V.ref y] := .inl (.inl upd_same)
    generalize upd H4 t5 (.tup [V.ref y]) = H5 at s5' ht5 ⊢
    have s05 := s03.trans (s4.trans s5')
    refine ⟨_, rfl, 2, rfl, ?_⟩
    dsimp only [tNoPart]
    refine slA_drop (Same.seqT s05 ha) 2 fun p6 H6 s6 h6 => ?_
    refine catA (Same.seqT s6 ht5) h6 (by show 1 + wt.length ≤ 1000; omega) fun p7 H7 s7 h7 => ?_
    have s57 := s6.trans s7
    have s07 := s05.trans s57
    have hB : GVs K T.C_Grid H7 n (V.ref y :: wt) (((r0 :: T0) ++ (r1 :: T1)) :: Mt) := .cons (IsGrid.same (s5'.trans s57) G4) (hpt.same s07)
    have hB7 : SqT K H7 p7 (V.ref y :: wt) := h7
    -- mixed
    refine ⟨_, rfl, ag, wg, rfl, .inl (.inl (.inl (s07 _ _ hag))), _, rfl, by omega, by omega, fun D8 hD8 => ?_⟩
    rw [show ((wg.length : Nat) : Int).toNat = n by rw [Int.toNat_natCast, lwg]]
    obtain ⟨mv, hmv⟩ : ∃ mv, ((List.range n).map fun k => r0.getD k 0 + r1.getD k 0) = mv := ⟨_, rfl⟩
    have lmv : mv.length = n := by rw [← hmv, List.length_map, List.length_range]
    refine lc_all walk_range hD8 (by omega) (fun _ _ => trivial) (fun k v _ => ∃ z, mv[k]? = some z ∧ v = .int z) (fun _ _ _ _ _ _ _ h => h) ?_ gm_name ?_
    · rintro k x H8 H8' acc Ko hk s8' eD ⟨rfl, rfl⟩ kk
      have s08 := s07.trans s8'
      have e0 : r0[k]? = some (r0.getD k 0) := by rw [List.getD_eq_getElem?_getD, List.getElem?_eq_getElem (by omega)]; rfl
      have e1 : r1[k]? = some (r1.getD k 0) := by rw [List.getD_eq_getElem?_getD, List.getElem?_eq_getElem (by omega)]; rfl
      refine ⟨rfl, ?_⟩
      refine ⟨_, rfl, a, _, _, _, rfl, rfl, Same.seqT s08 ha, at_of (j := 0) rfl rfl, p0, T.C_Grid, d0, _, _, rfl, s08 _ _ ho0, T.cl_Grid, T.n_rows, flds_rows _ _, a0, _, _, _, rfl, rfl, Same.seqT s08 ha0, at_of (j := 0) rfl rfl, _, rfl, b0, _, _, _, rfl, rfl, Same.seqT s08 hb0, at_of (j := k) (by omega) (ints_at e0), ?_⟩
      refine ⟨_, rfl, a, _, _, _, rfl, rfl, Same.seqT s08 ha, at_of (j := 1) rfl rfl, p1, T.C_Grid, d1, _, _, rfl, s08 _ _ ho1, T.cl_Grid, T.n_rows, flds_rows _ _, a1, _, _, _, rfl, rfl, Same.seqT s08 ha1, at_of (j := 0) rfl rfl, _, rfl, b1, _, _, _, rfl, rfl, Same.seqT s08 hb1, at_of (j := k) (by omega) (ints_at e1), _, _, rfl, rfl, ?_⟩
      exact kk _ _ (Same.refl _) ⟨r0.getD k 0 + r1.getD k 0, by rw [← hmv, List.getElem?_map, List.getElem?_range hk]; rfl, rfl⟩
    intro H8 l8 s8' eD8 hpl8
    have el8 := ints_list lmv.symm hpl8
    subst el8
    have s08 := s07.trans s8'
    -- bent
    refine ⟨_, rfl, by show 1 ≤ sizeLine; decide, fun q9 nq9 => ?_⟩
    have s9' := same_upd (o := .lst [V.ref D8]) nq9
    have eq9 : (upd H8 q9 (.lst [V.ref D8])) q9 = some (.lst [V.ref D8]) := upd_same
    generalize upd H8 q9 (.lst [V.ref D8]) = H9 at s9' eq9 ⊢
    have s09 := s08.trans s9'
    refine ⟨_, rfl, a, _, _, _, rfl, rfl, Same.seqT s09 ha, at_of (j := 0) rfl rfl, p0, T.C_Grid, d0, _, _, rfl, s09 _ _ ho0, T.cl_Grid, T.n_rows, flds_rows _ _, 1, rfl, ?_⟩
    dsimp only [tNoPart]
    refine slA_drop (Same.seqT s09 ha0) 1 fun p10 H10 s10' h10 => ?_
    refine ⟨p10, _, rfl, .inr h10, fun l11 nl11 => ?_⟩
    have s11' := same_upd (o := .lst ((V.ref b0 :: wr0).drop 1)) nl11
    have el11 : (upd H10 l11 (.lst ((V.ref b0 :: wr0).drop 1))) l11 = some (.lst wr0) := upd_same
    generalize upd H10 l11 (.lst ((V.ref b0 :: wr0).drop 1)) = H11 at s11' el11 ⊢
    have s911 := s10'.trans s11'
    refine ⟨q9, l11, _, _, rfl, rfl, s911 _ _ eq9, el11, Nat.le_of_lt (small1000 (by show 1 + wr0.length ≤ 1000; omega)), fun q12 nq12 => ?_⟩
    have s12' := same_upd (o := .lst ([V.ref D8] ++ wr0)) nq12
    have eq12 : (upd H11 q12 (.lst ([V.ref D8] ++ wr0))) q12 = some (.lst (V.ref D8 :: wr0)) := upd_same
    generalize upd H11 q12 (.lst ([V.ref D8] ++ wr0)) = H12 at s12' eq12 ⊢
    have s812 := s9'.trans (s911.trans s12')
    have s012 := s08.trans s812
    refine ⟨_, rfl, ag, wg, rfl, .inl (.inl (.inl (s012 _ _ hag))), ?_⟩
    rw [lwg]
    intro z zd nz nzd nez
    refine make_grid2 (m := mv :: T0) (w := n) nz nzd ⟨q12, _, rfl, .inl (.inl (.inl eq12)), .cons ⟨D8, rfl, .inl (.inl (.inl (s812 _ _ eD8)))⟩ (L2.Paired.mapP hpr0 fun _ _ h => (TRow.same s012 h).row)⟩ (by rw [List.length_cons]; omega) (by omega) (fun r hr => ?_) fun H13 s13' G13 => ⟨rfl, ?_⟩
    · rcases List.mem_cons.mp hr with rfl | h
      · exact lmv
      · exact hr0 r (List.mem_cons_of_mem _ h)
    refine ⟨by show 1 ≤ sizeLine; decide, fun t14 nt14 => ?_⟩
    have s14' := same_upd (o := .tup [V.ref z]) nt14
    have ht14 : SqT K (upd H13 t14 (.tup [V.ref z])) t14 [V.ref z] := .inl (.inl upd_same)
    generalize upd H13 t14 (.tup [V.ref z]) = H14 at s14' ht14 ⊢
    have s014 := s012.trans (s13'.trans s14')
    refine ⟨_, rfl, 1, rfl, ?_⟩
    dsimp only [tNoPart]
    refine slA_drop (Same.seqT s014 ha) 1 fun p15 H15 s15 h15 => ?_
    refine catA (Same.seqT s15 ht14) h15 (by show 1 + (wt.length + 1) ≤ 1000; omega) fun p16 H16 s16 h16 => ?_
    have s1416 := s15.trans s16
    have s016 := s014.trans s1416
    have hC : GVs K T.C_Grid H16 n (V.ref z :: V.ref p1 :: wt) ((mv :: T0) :: (r1 :: T1) :: Mt) := .cons (IsGrid.same (s14'.trans s1416) G13) (.cons (IsGrid.same s016 g1) (hpt.same s016))
    have hC16 : SqT K H16 p16 (V.ref z :: V.ref p1 :: wt) := h16
    have s716 : Same H7 H16 := s8'.trans (s812.trans (s13'.trans (s14'.trans s1416)))
    have f16 := f.same s016
    -- both are asked
    have okA : ∀ M ∈ ((r0 :: T0) ++ (r1 :: T1)) :: Mt, 0 < M.length ∧ M.length ≤ 7 ∧ ∀ r ∈ M, Bits 100 r := fun M hM => by
      rcases List.mem_cons.mp hM with rfl | h
      · refine ⟨by rw [List.length_append, List.length_cons]; omega, by rw [List.length_append, List.length_cons, List.length_cons]; omega, fun r hr => ?_⟩
        rcases List.mem_append.mp hr with h | h
        · exact bits_up (hok0.2.2 r h) (by decide)
        · exact bits_up (hok1.2.2 r h) (by decide)
      · exact lenOk hok M (List.mem_cons_of_mem _ (List.mem_cons_of_mem _ h))
    have bmv : Bits 100 mv := fun x hx => by
      rw [← hmv] at hx
      obtain ⟨k, hk, rfl⟩ := List.mem_map.mp hx
      have hk' := List.mem_range.mp hk
      have e0 : r0[k]? = some (r0.getD k 0) := by rw [List.getD_eq_getElem?_getD, List.getElem?_eq_getElem (by omega)]; rfl
      have e1 : r1[k]? = some (r1.getD k 0) := by rw [List.getD_eq_getElem?_getD, List.getElem?_eq_getElem (by omega)]; rfl
      have h0 := (hok0.2.2 r0 (List.mem_cons_self ..)).at e0
      have h1 := (hok1.2.2 r1 (List.mem_cons_self ..)).at e1
      have := Int.natAbs_add_le (r0.getD k 0) (r1.getD k 0)
      have e : (2 : Nat) ^ 100 = 2 * 2 ^ 99 := rfl
      omega
    have okC : ∀ M ∈ (mv :: T0) :: (r1 :: T1) :: Mt, 0 < M.length ∧ M.length ≤ 7 ∧ ∀ r ∈ M, Bits 100 r := fun M hM => by
      rcases List.mem_cons.mp hM with rfl | h
      · refine ⟨Nat.succ_pos _, by rw [List.length_cons]; omega, fun r hr => ?_⟩
        rcases List.mem_cons.mp hr with rfl | h
        · exact bmv
        · exact bits_up (hok0.2.2 r (List.mem_cons_of_mem _ h)) (by decide)
      · exact lenOk hok M (List.mem_cons_of_mem _ h)
    have lat16 := f16.lat
    have P3 := f.env.P3
    have P4 := f.env.P4 (m := mv) (by rw [lmv, hn]) fun j hj => by
      rw [hn] at hj
      show mv.getD j 0 = r0.getD j 0 + r1.getD j 0
      rw [← hmv, List.getD_eq_getElem?_getD, List.getElem?_map, List.getElem?_range hj]
      rfl
    rw [hn] at lat16 P3 P4
    refine ⟨_, rfl, _, rfl, ?_⟩
    refine ⟨lv, .ref p7, _, _, rfl, lat16, .inr ⟨p7, _, _, rfl, Same.seqT s716 hB7, gvs_some (hB.same s716), by rw [List.length_map, List.length_cons]; omega, .inr ⟨_, rfl, okA, fun H17 s17 => ?_⟩⟩⟩
    rw [P3]
    refine ⟨rfl, _, rfl, ?_⟩
    rw [show (!decide (V.bl true = V.bl true)) = false by rw [decide_eq_true rfl]; rfl]
    refine iteF ?_
    refine ⟨_, rfl, _, rfl, ?_⟩
    refine ⟨lv, .ref p16, _, _, rfl, IsLat.same s17 lat16, .inr ⟨p16, _, _, rfl, Same.seqT s17 hC16, gvs_some (hC.same s17), by rw [List.length_map, List.length_cons, List.length_cons]; omega, .inr ⟨_, rfl, okC, fun H18 s18 => ?_⟩⟩⟩
    rw [P4]
    refine ⟨rfl, _, rfl, ?_⟩
    rw [show (!decide (V.bl false = V.bl false)) = false by rw [decide_eq_true rfl]; rfl]
    refine iteF ?_
    exact ⟨⟨s0, s2, _, s5, s8, s9, s10, _, _, _, s14, p, a, .ref ag, lv, _, U, bs, _, rfl, f16.same (s17.trans s18)⟩, q⟩
  · rw [decide_eq_false (show ¬ (1 : Int) < (ws.length : Nat) by omega)]
    refine iteF ?_
    exact ⟨⟨s0, s2, s4, s5, s8, s9, s10, s11, s12, s13, s14, p, a, gv, lv, ws, U, bs, Ms, rfl, f⟩, q⟩
theorem ch9 (T : Top K mg) (hN : base.NoSeer) (hT : P.given.tree = none) {cdv : Value} {A : Around} {outer : List Env} {s : Shared} {H0 : Hp} {E : XK} (hr : Room 47 (A.deeper (envOfC "law" (defScope s_law) s.heap.objs.size T.a_law cdv))) :
    PSs (XL P w base T cdv A outer s H0 E) ((defBody s_law).drop 9) (tK (M11 K T.C_Grid T.C_Lattice)) := by
  refine pss_wk ((pss_cons (ps_if (PW.pt (pw_or (pt_cmpR op_ne (pe_c (cal_is_parting T hN hT) hr (by decide) (by rfl) (pa_cons (pv 6) (pa_cons (pv 7) pa_nil))) pe_bl (nomark _)) (pw_or1 (pt_cmpR op_ne (pe_c (cal_is_parting T hN hT) hr (by decide) (by rfl) (pa_cons (pv 6) (pa_cons (backK K rfl (pv 7)) pa_nil))) pe_bl (nomark _)))))
      (pss_one (ps_ret pe_bl))
      pss_nil)
      (ch10 T hN hT hr))) ?_
  rintro D σ H ⟨⟨s0, s2, s4, s5, s8, s9, s10, s11, s12, s13, s14, p, a, gv, lv, ws, U, bs, Ms, rfl, f⟩, q⟩
  have l3 := f.env.l3
  have hokM := lenOk f.env.ok3
  refine ⟨_, rfl, _, rfl, ?_⟩
  refine ⟨lv, .ref a, _, _, rfl, f.lat, .inr ⟨a, ws, _, rfl, f.ha, gvs_some f.gs, by rw [List.length_map]; omega, .inr ⟨Ms, rfl, hokM, fun H1 s1 => ?_⟩⟩⟩
  rw [f.env.P1]
  refine ⟨rfl, _, rfl, ?_⟩
  rw [show (!decide (V.bl true = V.bl true)) = false by rw [decide_eq_true rfl]; rfl]
  refine iteF ?_
  have f1 := f.same s1
  refine ⟨_, rfl, _, rfl, a, ws, rfl, f1.ha, fun p2 np2 => ?_⟩
  have s2' := same_upd (o := .tup ws.reverse) np2
  have hp2 : SqT K (upd H1 p2 (.tup ws.reverse)) p2 ws.reverse := .inl (.inl upd_same)
  generalize upd H1 p2 (.tup ws.reverse) = H2 at s2' hp2 ⊢
  have f2 := f1.same s2'
  refine ⟨lv, .ref p2, _, _, rfl, f2.lat, .inr ⟨p2, ws.reverse, _, rfl, hp2, gvs_some (paired_rev f2.gs), by rw [List.length_map, List.length_reverse]; omega, .inr ⟨Ms.reverse, rfl, fun M hM => hokM M (List.mem_reverse.mp hM), fun H3 s3 => ?_⟩⟩⟩
  rw [f.env.P2]
  refine ⟨rfl, _, rfl, ?_⟩
  rw [show (!decide (V.bl true = V.bl true)) = false by rw [decide_eq_true rfl]; rfl]
  refine iteF ?_
  exact ⟨⟨s0, s2, s4, s5, s8, s9, s10, s11, s12, s13, s14, p, a, gv, lv, ws, U, bs, Ms, rfl, f2.same s3⟩, q⟩

end
end K39
namespace K39
open PySem PySem.Spec PyProof.Rows L2 Gm
open C8 (Cal Met Mak pe_c pe_mt pe_mt0 pe_mk)
section
variable {P : Program} {w : World} {K : PySem.W.Frag} {mg : Str → Option Value} {base : Heap}
/-! ### the images that the law makes -/
theorem small_inv {n i k : Nat} {U : List (List Int)} (h0 : 0 < n) (h3 : n ≤ 3) (h : Uni n 3 U) (hi : i < n) (hk : k < n) : (((invM n U).getD i []).getD k 0).natAbs < 2 ^ 40 := by
  have e : ((invM n U).getD i []).getD k 0 = ent (invM n U) i k := rfl
  rw [e, invM_ent hi hk]
  obtain ⟨n', rfl⟩ : ∃ n', n = n' + 1 := ⟨n - 1, by omega⟩
  have sq : Sq (n' + 1) 8 U := ⟨h.sz.len, h.sz.row, fun r hr x hx => by
    have h1 := h.l1 r hr
    have h2 := l1_at hx
    show x.natAbs < 256
    omega⟩
  have hd := detL_le (by omega) (cutM_sq sq hk hi)
  rw [due_ent hi hk, Int.natAbs_mul, Int.natAbs_mul, h.det, Nat.one_mul, Nat.add_sub_cancel]
  have hs : (sgn (i + k)).natAbs = 1 := by
    unfold sgn
    omega
  rw [hs, Nat.one_mul]
  refine Nat.lt_of_lt_of_le hd (Nat.pow_le_pow_right (by decide) ?_)
  have : n' * (8 + 8) ≤ 2 * 16 := Nat.mul_le_mul (by omega) (Nat.le_refl _)
  omega
theorem inv_bits {n : Nat} {U : List (List Int)} (h0 : 0 < n) (h3 : n ≤ 3) (h : Uni n 3 U) : ∀ r ∈ invM n U, Bits 40 r := fun r hr z hz => by
  obtain ⟨i, hi, e⟩ := mem_getD hr
  rw [invM_len] at hi
  obtain ⟨k, hk⟩ := List.getElem?_of_mem hz
  have hk' : k < n := by
    have := (List.getElem?_eq_some_iff.mp hk).1
    rwa [invM_row r hr] at this
  have e2 : z = ((invM n U).getD i []).getD k 0 := by
    rw [← e, List.getD_eq_getElem?_getD, hk]
    rfl
  rw [e2]
  exact small_inv h0 h3 h hi hk'
theorem dt_get {α : Type} {V : List (List α)} {off ln k : Nat} (hk : k < ln) (h : off + ln ≤ V.length) : ((V.drop off).take ln)[k]? = some (V.getD (off + k) []) := by
  rw [List.getElem?_take, if_pos hk, List.getElem?_drop, List.getD_eq_getElem?_getD, List.getElem?_eq_getElem (by omega)]
  rfl
theorem dt_mem {α : Type} {V : List (List α)} {off ln : Nat} (h : off + ln ≤ V.length) {r : List α} (hr : r ∈ (V.drop off).take ln) : ∃ k, k < ln ∧ r = V.getD (off + k) [] := by
  obtain ⟨k, hk⟩ := List.getElem?_of_mem hr
  have hl : k < ln := by
    have := (List.getElem?_eq_some_iff.mp hk).1
    rw [List.length_take] at this
    omega
  rw [dt_get hl h] at hk
  exact ⟨k, hl, (Option.some.inj hk).symm⟩
theorem img_plain {n off ln : Nat} {U : List (List Int)} (h0 : 0 < n) (h3 : n ≤ 3) (h : Uni n 3 U) (hl : 0 < ln) (ho : off + ln ≤ n) : Img U n off ln (((invM n U).drop off).take ln) := by
  have lV : (invM n U).length = n := invM_len
  refine ⟨by rw [List.length_take, List.length_drop, lV]; omega, fun r hr => invM_row r (List.mem_of_mem_drop (List.mem_of_mem_take hr)), fun r hr => bits_up (inv_bits h0 h3 h r (List.mem_of_mem_drop (List.mem_of_mem_take hr))) (by decide), fun r hr j hj hn => ?_, fun k h1 h2 => ?_, ?_⟩
  · obtain ⟨k, hk, rfl⟩ := dt_mem (by omega) hr
    rw [invM_cU (by omega) h.sz h.det (by omega) hj] at hn
    by_cases e : off + k = j
    · omega
    · rw [if_neg e] at hn
      exact absurd rfl hn
  · have e := dt_get (V := invM n U) (off := off) (ln := ln) (k := k - off) (by omega) (by omega)
    rw [show off + (k - off) = k by omega] at e
    exact Spn.mem (List.mem_of_getElem? e)
  · rw [List.getD_eq_getElem?_getD, dt_get hl (by omega)]
    rfl
def bentR (n : Nat) (x y : List Int) : List Int := (List.range n).map fun k => y.getD k 0 - 2 * x.getD k 0
theorem bentR_get {n k : Nat} {x y : List Int} (hx : x.length = n) (hy : y.length = n) : (bentR n x y).getD k 0 = y.getD k 0 + -2 * x.getD k 0 := by
  unfold bentR
  by_cases hk : k < n
  · rw [List.getD_eq_getElem?_getD, List.getElem?_map, List.getElem?_range hk]
    show y.getD k 0 - 2 * x.getD k 0 = _
    omega
  · rw [getD_none (by rw [List.length_map, List.length_range]; omega), getD_none (by omega), getD_none (by omega)]
    rfl
theorem img_bent {n off : Nat} {U : List (List Int)} (h0 : 0 < n) (h3 : n ≤ 3) (h : Uni n 3 U) (ho : off + 2 ≤ n) : Img U n off 2 [(invM n U).getD off [], bentR n ((invM n U).getD off []) ((invM n U).getD (off + 1) [])] := by
  have lV : (invM n U).length = n := invM_len
  have m0 : (invM n U).getD off [] ∈ invM n U := getD_mem (by omega)
  have m1 : (invM n U).getD (off + 1) [] ∈ invM n U := getD_mem (by omega)
  have r0 := invM_row _ m0
  have r1 := invM_row _ m1
  have b0 := inv_bits h0 h3 h _ m0
  have b1 := inv_bits h0 h3 h _ m1
  have e2 : ∀ j, cU U n (fn (bentR n ((invM n U).getD off []) ((invM n U).getD (off + 1) []))) j = cU U n (fn ((invM n U).getD (off + 1) [])) j + -2 * cU U n (fn ((invM n U).getD off [])) j := fun j => by
    unfold cU
    rw [← sumF_lin]
    refine sumF_congr fun k _ => ?_
    show (bentR n _ _).getD k 0 * ent U k j = _
    rw [bentR_get r0 r1, Int.add_mul, Int.mul_assoc]
  refine ⟨rfl, fun r hr => ?_, fun r hr => ?_, fun r hr j hj hn => ?_, fun k h1 h2 => ?_, rfl⟩
  · rcases List.mem_cons.mp hr with rfl | hr
    · exact r0
    · rw [List.mem_singleton.mp hr]
      unfold bentR
      rw [List.length_map, List.length_range]
  · rcases List.mem_cons.mp hr with rfl | hr
    · exact bits_up b0 (by decide)
    · rw [List.mem_singleton.mp hr]
      intro z hz
      obtain ⟨k, hk, rfl⟩ := List.mem_map.mp hz
      have hk' := List.mem_range.mp hk
      have c0 := small_inv h0 h3 h (i := off) (k := k) (by omega) hk'
      have c1 := small_inv h0 h3 h (i := off + 1) (k := k) (by omega) hk'
      have e75 : 3 * 2 ^ 40 ≤ 2 ^ 99 := by decide
      omega
  · rcases List.mem_cons.mp hr with rfl | hr
    · rw [invM_cU (by omega) h.sz h.det (by omega) hj] at hn
      by_cases e : off = j
      · omega
      · rw [if_neg e] at hn
        exact absurd rfl hn
    · rw [List.mem_singleton.mp hr, e2, invM_cU (by omega) h.sz h.det (by omega) hj, invM_cU (by omega) h.sz h.det (by omega) hj] at hn
      by_cases e : off = j
      · omega
      · by_cases e1 : off + 1 = j
        · omega
        · rw [if_neg e, if_neg e1] at hn
          exact absurd rfl hn
  · rcases (show k = off ∨ k = off + 1 by omega) with rfl | rfl
    · exact Spn.mem (List.mem_cons_self ..)
    · have s1 : Spn [(invM n U).getD off [], bentR n ((invM n U).getD off []) ((invM n U).getD (off + 1) [])] (fn (bentR n ((invM n U).getD off []) ((invM n U).getD (off + 1) []))) := Spn.mem (List.mem_cons_of_mem _ (List.mem_cons_self ..))
      have s0 : Spn [(invM n U).getD off [], bentR n ((invM n U).getD off []) ((invM n U).getD (off + 1) [])] (fn ((invM n U).getD off [])) := Spn.mem (List.mem_cons_self ..)
      refine (s1.add (s0.smul 2)).cong fun j => ?_
      show (bentR n _ _).getD j 0 + 2 * ((invM n U).getD off []).getD j 0 = ((invM n U).getD (off + 1) []).getD j 0
      rw [bentR_get r0 r1]
      omega
theorem imgs_snoc {U : List (List Int)} {bs Ms : List (List (List Int))} {i : Nat} {M : List (List Int)} (h : Imgs U bs Ms i) (hM : Img U (bsum bs) (offB bs i) (lenB bs i) M) : Imgs U bs (Ms ++ [M]) (i + 1) := by
  refine ⟨by rw [List.length_append, h.len]; rfl, fun t ht => ?_⟩
  by_cases e : t < i
  · have e1 : (Ms ++ [M]).getD t [] = Ms.getD t [] := by rw [List.getD_eq_getElem?_getD, List.getElem?_append_left (by rw [h.len]; exact e), List.getD_eq_getElem?_getD]
    rw [e1]
    exact h.img t e
  · have e2 : t = i := by omega
    subst e2
    have e1 : (Ms ++ [M]).getD t [] = M := by rw [List.getD_eq_getElem?_getD, List.getElem?_append_right (by rw [h.len]; exact Nat.le_refl _), h.len, Nat.sub_self]; rfl
    rw [e1]
    exact hM

end
end K39
namespace K39
open PySem PySem.Spec PyProof.Rows L2 Gm
open C8 (Cal Met Mak pe_c pe_mt pe_mt0 pe_mk)
section
variable {P : Program} {w : World} {K : PySem.W.Frag} {mg : Str → Option Value} {base : Heap}
/-! ### the loop over the blocks -/
structure G8 (K : PySem.W.Frag) (CG CL : Addr) (H : Hp) (p ab a : Addr) (wb : List V) (gv bk lv : V) (ws : List V) (U : List (List Int)) (bs Ms : List (List (List Int))) (i : Nat) : Prop where
  st : StAt H p
  nab : ab ≠ p
  hab : H ab = some (.lst wb)
  pb : Paired (LB p p H) wb bs
  hg : LAs p H gv (joinM bs)
  hk : LAs p H bk (invM (bsum bs) U)
  lat : IsLat K CG CL H lv (movM (joinM bs) U (bsum bs)) (bsum bs)
  ha : SqT K H a ws
  gs : GVs K CG H (bsum bs) ws Ms
  ims : Imgs U bs Ms i
section
variable {K : PySem.W.Frag} {CG CL : Addr} {H H' : Hp} {p ab a : Addr} {wb : List V} {gv bk lv : V} {ws : List V} {U : List (List Int)} {bs Ms : List (List (List Int))} {i : Nat}
theorem G8.off (o : Off p H H') (st : StAt H' p) (f : G8 K CG CL H p ab a wb gv bk lv ws U bs Ms i) : G8 K CG CL H' p ab a wb gv bk lv ws U bs Ms i :=
  ⟨st, f.nab, o _ _ f.nab f.hab, L2.Paired.mapP f.pb fun _ _ => LB.offp o, f.hg.offp o, f.hk.offp o, latS f.st o f.lat, seqT_off f.st o f.ha, gvs_off f.st o f.gs, f.ims⟩
theorem G8.same (s : Same H H') (f : G8 K CG CL H p ab a wb gv bk lv ws U bs Ms i) : G8 K CG CL H' p ab a wb gv bk lv ws U bs Ms i := f.off (Same.off s) (f.st.same s)
end
theorem cut_both (xs : List V) (i j : Nat) (hj : j ≤ xs.length) (hij : i ≤ j) : cutV xs (some (i : Int)) (some (j : Int)) = (xs.drop i).take (j - i) := by
  unfold cutV
  rw [HT.sIx_nat, HT.sIx_nat, Nat.min_eq_left hj, Nat.min_eq_left (Nat.le_trans hij hj)]
def M8 (K : PySem.W.Frag) (CG CL : Addr) : L2.St → Hp → Prop := fun σ H => ∃ (s0 s4 : Option V) (p ab a : Addr) (wb : List V) (gv bk lv : V) (U : List (List Int)) (bs : List (List (List Int))),
  σ = [s0, some (.ref p), some (.ref ab), some gv, s4, some bk, some lv, some (.ref a), some (.int 0), none, none, none, none, none, none] ∧ G8 K CG CL H p ab a wb gv bk lv [] U bs [] 0 ∧ (∀ b ∈ bs, Blk b) ∧ 0 < bsum bs ∧ bsum bs ≤ 3 ∧ Uni (bsum bs) 3 U
theorem ch8 (T : Top K mg) (hN : base.NoSeer) (hT : P.given.tree = none) {cdv : Value} {A : Around} {outer : List Env} {s : Shared} {H0 : Hp} {E : XK} (hr : Room 47 (A.deeper (envOfC "law" (defScope s_law) s.heap.objs.size T.a_law cdv))) :
    PSs (XL P w base T cdv A outer s H0 E) ((defBody s_law).drop 8) (tK (M8 K T.C_Grid T.C_Lattice)) := by
  refine pss_wk ((pss_cons (ps_for PassesOwn.never rfl (piS K rfl (pv 2)) (pg_name (i := 9) sc_law.nd rfl (by first | exact .inl rfl | exact .inr rfl))
      (pss_cons (ps_set (i := 10) sc_law.nd rfl (by first | exact .inl rfl | exact .inr rfl) (pe_slice (slLK K rfl) (pv 5) (po_some (pv 8)) (po_some (pe_op op_add (pv 8) (pe_callB (lenS K rfl) (by rfl) T.z_len (by decide +kernel) (pa_cons (pv 9) pa_nil))))))
      (pss_cons (ps_if (PW.pt (pw_and (pt_cmpR op_eq (pe_callB (lenS K rfl) (by rfl) T.z_len (by decide +kernel) (pa_cons (pv 9) pa_nil)) pe_int (nomark _)) (pw_and1 (pt_cmpR op_eq (pe_c (cal_law_take T hN hT) hr (by decide) (by rfl) (pa_cons (pv 1) (pa_cons pe_int pa_nil))) pe_int (nomark _)))))
      (pss_one (ps_set (i := 10) sc_law.nd rfl (by first | exact .inl rfl | exact .inr rfl) (pe_lst (pa_cons (pe_ix (ixL K rfl) (pv 10) pe_int (fun _ _ => rfl)) (pa_cons (pe_lc (own := [("k", 14)]) (g := (gName 14)) (by rfl) sc_law.nd (pi_range1 (by rfl) T.z_range (pa_cons (pe_callB (lenS K rfl) (by rfl) T.z_len (by decide +kernel) (pa_cons (pv 3) pa_nil)) pa_nil)) ((by show BlkOk ["script", "state", "blocks_v", "gram", "rows", "back", "lattice", "grids", "at", "block", "images", "both", "mixed_v", "bent", "k"] (defScope s_law) _ _; exact blkOk_by (by decide +kernel))) (fun _ _ _ _ _ => (pg_name (i := 14) sc_law.nd rfl (by first | exact .inl rfl | exact .inr rfl))) (fun _ _ _ _ _ => pts_nil) (fun _ _ _ _ _ => (pe_op op_sub (pe_ix (ixL K rfl) (pe_ix (ixL K rfl) (pv 10) pe_int (fun _ _ => rfl)) (pv 14) (fun _ _ => rfl)) (pe_op op_mulX pe_int (pe_ix (ixL K rfl) (pe_ix (ixL K rfl) (pv 10) pe_int (fun _ _ => rfl)) (pv 14) (fun _ _ => rfl)))))) pa_nil)))))
      pss_nil)
      (pss_cons (ps_set (i := 7) sc_law.nd rfl (by first | exact .inl rfl | exact .inr rfl) (pe_op (catK K rfl) (pv 7) (pe_tup (pa_cons (pe_mk (mak_Grid T hN hT) hr (by decide) (by rfl) (pa_cons (pv 10) (pa_cons (pe_callB (lenS K rfl) (by rfl) T.z_len (by decide +kernel) (pa_cons (pv 3) pa_nil)) pa_nil))) pa_nil))))
      (pss_one (ps_set (i := 8) sc_law.nd rfl (by first | exact .inl rfl | exact .inr rfl) (pe_op op_add (pv 8) (pe_callB (lenS K rfl) (by rfl) T.z_len (by decide +kernel) (pa_cons (pv 9) pa_nil)))))))))
      (ch9 T hN hT hr))) ?_
  rintro D σ H ⟨⟨s0, s4, p, ab, a0, wb, gv, bk, lv, U, bs, rfl, f, hb, n0, n3, hU⟩, q⟩
  have lwb := Paired.length f.pb
  refine ⟨_, rfl, ab, wb, rfl, .inl (.inl (.inl f.hab)), fun J G W hG => ?_⟩
  refine for_it W (fun i σ H4 => ∃ (a : Addr) (ws : List V) (Ms : List (List (List Int))) (y9 y10 : Option V), σ = [s0, some (.ref p), some (.ref ab), some gv, s4, some bk, some lv, some (.ref a), some (.int ((offB bs i : Nat) : Int)), y9, y10, none, none, none, none] ∧ G8 K T.C_Grid T.C_Lattice H4 p ab a wb gv bk lv ws U bs Ms i) ⟨a0, [], [], none, none, rfl, f⟩ (fun i σ H4 _ ⟨_, _, _, _, _, _, f4⟩ => hG H4 fun b hbm o e => ?_) ?_ ?_
  · have hba : b = ab := by simpa using hbm
    subst hba
    rw [f.hab] at e
    rw [← e]
    exact f4.hab
  · rintro i x σ H4 H4' hi ⟨a, ws, Ms, y9, y10, rfl, f4⟩ ⟨rfl, ex⟩
    obtain ⟨b, eb, ac, wc, rfl, nac, _, hac, hpc⟩ := Paired.getR f4.pb ex
    have hbk := hb b (List.mem_of_getElem? eb)
    have hlb := blk_len hbk
    have ebD : bs.getD i [] = b := by rw [List.getD_eq_getElem?_getD, eb]; rfl
    have lwc := Paired.length hpc
    obtain ⟨etk, hle⟩ := bsum_take eb
    obtain ⟨n, hn⟩ : ∃ n, bsum bs = n := ⟨_, rfl⟩
    obtain ⟨off, hoff⟩ : ∃ off, offB bs i = off := ⟨_, rfl⟩
    have hle' : off + b.length ≤ n := by rw [← hoff, ← hn]; exact hle
    have hln : lenB bs i = b.length := by unfold lenB; rw [ebD]
    obtain ⟨ak, wk, rfl, nak, hak, hpk⟩ := id f4.hk
    have lwk : wk.length = n := by rw [Paired.length hpk, invM_len, hn]
    obtain ⟨ag, wg, rfl, nag, hag, hpg⟩ := id f4.hg
    have lwg : wg.length = n := by
      rw [Paired.length hpg, ← hn]
      exact (join_dom hb n0 n3).gram.sq.len
    have lws := Paired.length f4.gs
    have lMs := f4.ims.len
    have li3 : i < 3 := by have := bs_len hb; omega
    have hIs : ∀ {Hq : Hp} {yq : V} (Mq : List (List Int)) (_ : Unit), IsGrid K T.C_Grid Hq yq Mq n → IsGrid K T.C_Grid Hq yq Mq (bsum bs) := fun Mq _ h => by subst hn; exact h
    rw [hoff]
    refine ⟨_, rfl, _, rfl, (off : Int), rfl, _, rfl, _, rfl, ac, wc, rfl, .inl (.inl (.inl hac)), _, _, rfl, rfl, _, rfl, ?_⟩
    have ecv : cutV wk (some (off : Int)) (some ((off : Int) + (wc.length : Nat))) = (wk.drop off).take b.length := by
      rw [show ((off : Int) + (wc.length : Nat)) = ((off + wc.length : Nat) : Int) by omega, cut_both _ _ _ (by omega) (by omega), lwc, Nat.add_sub_cancel_left]
    refine (show rSlL K (.ref ak) (some (off : Int)) (some ((off : Int) + (wc.length : Nat))) _ _ from sl_lst hak fun q1 nq1 => ?_)
    rw [ecv]
    have s1 := same_upd (o := .lst ((wk.drop off).take b.length)) nq1
    have eq1 : (upd H4' q1 (.lst ((wk.drop off).take b.length))) q1 = some (.lst ((wk.drop off).take b.length)) := upd_same
    generalize upd H4' q1 (.lst ((wk.drop off).take b.length)) = H5 at s1 eq1 ⊢
    have f5 := f4.same s1
    have nq1p : q1 ≠ p := by
      obtain ⟨_, _, e, _⟩ := f4.st
      rintro rfl
      rw [e] at nq1
      cases nq1
    have hpI : Paired (LA p p H5) ((wk.drop off).take b.length) (((invM (bsum bs) U).drop off).take b.length) := paired_take _ (paired_drop _ (L2.Paired.mapP hpk fun _ _ => LA.same s1))
    have him0 : Img U (bsum bs) (offB bs i) (lenB bs i) (((invM (bsum bs) U).drop off).take b.length) := by
      rw [hln, hoff]
      exact img_plain n0 n3 hU hlb (by rw [hn]; exact hle')
    have hac5 := s1 _ _ hac
    have hag5 := s1 _ _ hag
    refine ⟨_, rfl, ac, wc, rfl, .inl (.inl (.inl hac5)), rfl, _, rfl, ?_⟩
    by_cases h2 : wc.length = 2
    · rw [show decide (V.int (wc.length : Nat) = V.int 2) = true from decide_eq_true (by rw [h2]; rfl)]
      refine iteT ?_
      refine ⟨_, rfl, p, 2, rfl, f5.st, by decide, by decide, fun r H6 hr6 o6 st6 => ⟨rfl, _, rfl, ?_⟩⟩
      have f6 := f5.off o6 st6
      have eq16 := o6 _ _ nq1p eq1
      have hpI6 : Paired (LA p p H6) _ _ := L2.Paired.mapP hpI fun _ _ => LA.offp o6
      by_cases hr0 : V.int (r : Nat) = V.int 0
      · rw [decide_eq_true hr0]
        refine iteT ?_
        have hb2 : b.length = 2 := by omega
        have lV : (invM (bsum bs) U).length = n := by rw [invM_len, hn]
        have e0 := dt_get (V := invM (bsum bs) U) (off := off) (ln := b.length) (k := 0) (by omega) (by omega)
        have e1 := dt_get (V := invM (bsum bs) U) (off := off) (ln := b.length) (k := 1) (by omega) (by omega)
        rw [Nat.add_zero] at e0
        obtain ⟨x0, hx0⟩ : ∃ x, (invM (bsum bs) U).getD off [] = x := ⟨_, rfl⟩
        obtain ⟨x1, hx1⟩ : ∃ x, (invM (bsum bs) U).getD (off + 1) [] = x := ⟨_, rfl⟩
        have him1 := img_bent n0 n3 hU (off := off) (by omega)
        rw [hx0, hx1] at him1
        rw [hx0] at e0
        rw [hx1] at e1
        have mx0 : x0 ∈ invM (bsum bs) U := by rw [← hx0]; exact getD_mem (by omega)
        have mx1 : x1 ∈ invM (bsum bs) U := by rw [← hx1]; exact getD_mem (by omega)
        have lx0 : x0.length = n := (invM_row x0 mx0).trans hn
        have lx1 : x1.length = n := (invM_row x1 mx1).trans hn
        have him1 : Img U (bsum bs) (offB bs i) (lenB bs i) [x0, bentR n x0 x1] := by
          rw [hln, hb2, hoff]
          rw [← hn]
          exact him1
        obtain ⟨vc0, ev0, c0, rfl, nc0, _, hc0⟩ := Paired.getL hpI6 e0
        obtain ⟨vc1, ev1, c1, rfl, nc1, _, hc1⟩ := Paired.getL hpI6 e1
        refine ⟨_, rfl, q1, _, _, _, rfl, rfl, .inl (.inl eq16), at_of (j := 0) rfl ev0, ?_⟩
        refine ⟨_, rfl, ag, wg, rfl, .inl (.inl (.inl (o6 _ _ nag hag5))), _, rfl, by omega, by omega, fun D7 hD7 => ?_⟩
        rw [show ((wg.length : Nat) : Int).toNat = n by rw [Int.toNat_natCast, lwg]]
        have lbent : (bentR n x0 x1).length = n := by unfold bentR; rw [List.length_map, List.length_range]
        refine lc_all walk_range hD7 (by omega) (fun _ _ => trivial) (fun k v _ => ∃ z, (bentR n x0 x1)[k]? = some z ∧ v = .int z) (fun _ _ _ _ _ _ _ h => h) ?_ gm_name ?_
        · rintro k x H7 H7' acc Ko hk s7 eD ⟨rfl, rfl⟩ kk
          have g0 : x0[k]? = some (x0.getD k 0) := by rw [List.getD_eq_getElem?_getD, List.getElem?_eq_getElem (by omega)]; rfl
          have g1 : x1[k]? = some (x1.getD k 0) := by rw [List.getD_eq_getElem?_getD, List.getElem?_eq_getElem (by omega)]; rfl
          have bx0 := (inv_bits n0 n3 hU x0 mx0).at g0
          refine ⟨rfl, ?_⟩
          refine ⟨_, rfl, q1, _, _, _, rfl, rfl, .inl (.inl (s7 _ _ eq16)), at_of (j := 1) rfl ev1, _, rfl, c1, _, _, _, rfl, rfl, .inl (.inl (s7 _ _ hc1)), at_of (j := k) (by omega) (ints_at g1), ?_⟩
          refine ⟨_, rfl, q1, _, _, _, rfl, rfl, .inl (.inl (s7 _ _ eq16)), at_of (j := 0) rfl ev0, _, rfl, c0, _, _, _, rfl, rfl, .inl (.inl (s7 _ _ hc0)), at_of (j := k) (by omega) (ints_at g0), _, _, rfl, rfl, mulx_ok (show (2 : Int).natAbs < 2 ^ 2 by decide) bx0 (by decide), _, _, rfl, rfl, ?_⟩
          exact kk _ _ (Same.refl _) ⟨x1.getD k 0 - 2 * x0.getD k 0, by unfold bentR; rw [List.getElem?_map, List.getElem?_range hk]; rfl, rfl⟩
        intro H7 l7 s7 eD7 hpl7
        have el7 := ints_list lbent.symm hpl7
        subst el7
        refine ⟨by show 2 ≤ sizeLine; decide, fun q8 nq8 => ?_⟩
        have s8 := same_upd (o := .lst [V.ref c0, V.ref D7]) nq8
        have eq8 : (upd H7 q8 (.lst [V.ref c0, V.ref D7])) q8 = some (.lst [V.ref c0, V.ref D7]) := upd_same
        have hD8 := s8 _ _ eD7
        generalize upd H7 q8 (.lst [V.ref c0, V.ref D7]) = H8 at s8 eq8 hD8 ⊢
        have s68 := s7.trans s8
        have f8 := f6.same s68
        have nD7p : D7 ≠ p := by
          obtain ⟨_, _, e, _⟩ := f6.st
          rintro rfl
          rw [e] at hD7
          cases hD7
        have hp8 : Paired (LA p p H8) [V.ref c0, V.ref D7] [x0, bentR n x0 x1] := .cons ⟨c0, rfl, nc0, nc0, s68 _ _ hc0⟩ (.cons ⟨D7, rfl, nD7p, nD7p, hD8⟩ .nil)
        have fX : G8 K T.C_Grid T.C_Lattice H8 p ab a wb (.ref ag) (.ref ak) lv ws U bs Ms i := f8
        have imX : Img U (bsum bs) (offB bs i) (lenB bs i) [x0, bentR n x0 x1] := him1
        have rowX : ∀ r ∈ [x0, bentR n x0 x1], r.length = n := fun r hr => (imX.row r hr).trans hn
        have lenX := imX.len
        have hagX : H8 ag = some (.lst wg) := s68 _ _ (o6 _ _ nag hag5)
        have hacX : H8 ac = some (.lst wc) := s68 _ _ (o6 _ _ nac hac5)
        refine ⟨_, rfl, _, rfl, _, rfl, ag, wg, rfl, .inl (.inl (.inl hagX)), ?_⟩
        rw [lwg]
        intro y yd ny nyd ney
        refine make_grid2 (m := [x0, bentR n x0 x1]) (w := n) ny nyd ⟨q8, [.ref c0, .ref D7], rfl, .inl (.inl (.inl eq8)), L2.Paired.mapP hp8 fun _ _ ⟨c, ev, _, _, e⟩ => ⟨c, ev, .inl (.inl (.inl e))⟩⟩ (by show 2 ≤ 1000; decide) (by omega) rowX fun H20 s20 G20 => ⟨rfl, ?_⟩
        refine ⟨by show 1 ≤ sizeLine; decide, fun t21 nt21 => ?_⟩
        have s21 := same_upd (o := .tup [V.ref y]) nt21
        have ht21 : SqT K (upd H20 t21 (.tup [V.ref y])) t21 [V.ref y] := .inl (.inl upd_same)
        generalize upd H20 t21 (.tup [V.ref y]) = H21 at s21 ht21 ⊢
        have s2021 := s20.trans s21
        refine catA (Same.seqT s2021 fX.ha) ht21 (by show ws.length + 1 ≤ 1000; omega) fun p22 H22 s22 h22 => ?_
        have s2022 := s2021.trans s22
        have f22 := fX.same s2022
        refine ⟨_, rfl, _, rfl, ac, wc, rfl, .inl (.inl (.inl (s2022 _ _ hacX))), _, _, rfl, rfl, ?_⟩
        have hgs : GVs K T.C_Grid H22 (bsum bs) (ws ++ [V.ref y]) (Ms ++ [[x0, bentR n x0 x1]]) := paired_app f22.gs (.cons (show IsGrid K T.C_Grid H22 (.ref y) [x0, bentR n x0 x1] (bsum bs) from hIs _ () (IsGrid.same (s21.trans s22) G20)) .nil)
        refine ⟨p22, ws ++ [V.ref y], Ms ++ [[x0, bentR n x0 x1]], some (.ref ac), some (.ref q8), ?_, ⟨f22.st, f22.nab, f22.hab, f22.pb, f22.hg, f22.hk, f22.lat, h22, hgs, imgs_snoc f22.ims imX⟩⟩
        have eoff : offB bs (i + 1) = off + wc.length := by
          rw [← hoff, lwc]
          unfold offB
          rw [etk, bsum_app]
        rw [eoff]
        rfl
      · rw [decide_eq_false hr0]
        refine iteF ?_
        have fX : G8 K T.C_Grid T.C_Lattice H6 p ab a wb (.ref ag) (.ref ak) lv ws U bs Ms i := f6
        have imX : Img U (bsum bs) (offB bs i) (lenB bs i) (((invM (bsum bs) U).drop off).take b.length) := him0
        have rowX : ∀ r ∈ (((invM (bsum bs) U).drop off).take b.length), r.length = n := fun r hr => (imX.row r hr).trans hn
        have lenX := imX.len
        have hagX : H6 ag = some (.lst wg) := o6 _ _ nag hag5
        have hacX : H6 ac = some (.lst wc) := o6 _ _ nac hac5
        refine ⟨_, rfl, _, rfl, _, rfl, ag, wg, rfl, .inl (.inl (.inl hagX)), ?_⟩
        rw [lwg]
        intro y yd ny nyd ney
        refine make_grid2 (m := (((invM (bsum bs) U).drop off).take b.length)) (w := n) ny nyd ⟨q1, _, rfl, .inl (.inl (.inl eq16)), L2.Paired.mapP hpI6 fun _ _ ⟨c, ev, _, _, e⟩ => ⟨c, ev, .inl (.inl (.inl e))⟩⟩ (by omega) (by omega) rowX fun H20 s20 G20 => ⟨rfl, ?_⟩
        refine ⟨by show 1 ≤ sizeLine; decide, fun t21 nt21 => ?_⟩
        have s21 := same_upd (o := .tup [V.ref y]) nt21
        have ht21 : SqT K (upd H20 t21 (.tup [V.ref y])) t21 [V.ref y] := .inl (.inl upd_same)
        generalize upd H20 t21 (.tup [V.ref y]) = H21 at s21 ht21 ⊢
        have s2021 := s20.trans s21
        refine catA (Same.seqT s2021 fX.ha) ht21 (by show ws.length + 1 ≤ 1000; omega) fun p22 H22 s22 h22 => ?_
        have s2022 := s2021.trans s22
        have f22 := fX.same s2022
        refine ⟨_, rfl, _, rfl, ac, wc, rfl, .inl (.inl (.inl (s2022 _ _ hacX))), _, _, rfl, rfl, ?_⟩
        have hgs : GVs K T.C_Grid H22 (bsum bs) (ws ++ [V.ref y]) (Ms ++ [(((invM (bsum bs) U).drop off).take b.length)]) := paired_app f22.gs (.cons (show IsGrid K T.C_Grid H22 (.ref y) (((invM (bsum bs) U).drop off).take b.length) (bsum bs) from hIs _ () (IsGrid.same (s21.trans s22) G20)) .nil)
        refine ⟨p22, ws ++ [V.ref y], Ms ++ [(((invM (bsum bs) U).drop off).take b.length)], some (.ref ac), some (.ref q1), ?_, ⟨f22.st, f22.nab, f22.hab, f22.pb, f22.hg, f22.hk, f22.lat, h22, hgs, imgs_snoc f22.ims imX⟩⟩
        have eoff : offB bs (i + 1) = off + wc.length := by
          rw [← hoff, lwc]
          unfold offB
          rw [etk, bsum_app]
        rw [eoff]
        rfl
    · rw [show decide (V.int (wc.length : Nat) = V.int 2) = false from decide_eq_false fun e => h2 (by have := V.int.inj e; omega)]
      refine iteF ?_
      have fX : G8 K T.C_Grid T.C_Lattice H5 p ab a wb (.ref ag) (.ref ak) lv ws U bs Ms i := f5
      have imX : Img U (bsum bs) (offB bs i) (lenB bs i) (((invM (bsum bs) U).drop off).take b.length) := him0
      have rowX : ∀ r ∈ (((invM (bsum bs) U).drop off).take b.length), r.length = n := fun r hr => (imX.row r hr).trans hn
      have lenX := imX.len
      have hagX : H5 ag = some (.lst wg) := hag5
      have hacX : H5 ac = some (.lst wc) := hac5
      refine ⟨_, rfl, _, rfl, _, rfl, ag, wg, rfl, .inl (.inl (.inl hagX)), ?_⟩
      rw [lwg]
      intro y yd ny nyd ney
      refine make_grid2 (m := (((invM (bsum bs) U).drop off).take b.length)) (w := n) ny nyd ⟨q1, _, rfl, .inl (.inl (.inl eq1)), L2.Paired.mapP hpI fun _ _ ⟨c, ev, _, _, e⟩ => ⟨c, ev, .inl (.inl (.inl e))⟩⟩ (by omega) (by omega) rowX fun H20 s20 G20 => ⟨rfl, ?_⟩
      refine ⟨by show 1 ≤ sizeLine; decide, fun t21 nt21 => ?_⟩
      have s21 := same_upd (o := .tup [V.ref y]) nt21
      have ht21 : SqT K (upd H20 t21 (.tup [V.ref y])) t21 [V.ref y] := .inl (.inl upd_same)
      generalize upd H20 t21 (.tup [V.ref y]) = H21 at s21 ht21 ⊢
      have s2021 := s20.trans s21
      refine catA (Same.seqT s2021 fX.ha) ht21 (by show ws.length + 1 ≤ 1000; omega) fun p22 H22 s22 h22 => ?_
      have s2022 := s2021.trans s22
      have f22 := fX.same s2022
      refine ⟨_, rfl, _, rfl, ac, wc, rfl, .inl (.inl (.inl (s2022 _ _ hacX))), _, _, rfl, rfl, ?_⟩
      have hgs : GVs K T.C_Grid H22 (bsum bs) (ws ++ [V.ref y]) (Ms ++ [(((invM (bsum bs) U).drop off).take b.length)]) := paired_app f22.gs (.cons (show IsGrid K T.C_Grid H22 (.ref y) (((invM (bsum bs) U).drop off).take b.length) (bsum bs) from hIs _ () (IsGrid.same (s21.trans s22) G20)) .nil)
      refine ⟨p22, ws ++ [V.ref y], Ms ++ [(((invM (bsum bs) U).drop off).take b.length)], some (.ref ac), some (.ref q1), ?_, ⟨f22.st, f22.nab, f22.hab, f22.pb, f22.hg, f22.hk, f22.lat, h22, hgs, imgs_snoc f22.ims imX⟩⟩
      have eoff : offB bs (i + 1) = off + wc.length := by
        rw [← hoff, lwc]
        unfold offB
        rw [etk, bsum_app]
      rw [eoff]
      rfl
  · rintro σ H4 ⟨a, ws, Ms, y9, y10, rfl, f4⟩
    have him := f4.ims
    rw [lwb] at him
    exact ⟨⟨s0, some (.ref ab), s4, some bk, _, y9, y10, none, none, none, none, p, a, gv, lv, ws, U, bs, Ms, rfl, ⟨f4.st, f4.hg, f4.lat, f4.ha, f4.gs, ⟨hb, n0, n3, hU, him⟩⟩⟩, q⟩

end
end K39
namespace K39
open PySem PySem.Spec PyProof.Rows L2 Gm
open C8 (Cal Met Mak pe_c pe_mt pe_mt0 pe_mk)
section
variable {P : Program} {w : World} {K : PySem.W.Frag} {mg : Str → Option Value} {base : Heap}
/-! ### the law -/
theorem bitsU {r : List Int} (h : l1 r ≤ 8) : Bits 8 r := fun x hx => by have := l1_at hx; show x.natAbs < 256; omega
theorem ok_law (T : Top K mg) (hN : base.NoSeer) (hT : P.given.tree = none) : FnOk P w K mg base CX0 48 T.a_law T.d_law ["script"] (sp_law K) := by
  refine T.F_law.ok sc_law (fun vs H Q E h => ?_) (fun cdv A outer s H vs Q E hr h => ?_)
  · obtain ⟨a, ns, rfl, _⟩ := h
    rfl
  · obtain ⟨a0, ns, rfl, hsc, hl, hb, q⟩ := h
    refine ⟨_, ((pss_cons (ps_set (i := 1) sc_law.nd rfl (by first | exact .inl rfl | exact .inr rfl) (pe_c (cal_law_state T hN hT) hr (by decide) (by rfl) (pa_cons (pv 0) pa_nil)))
      (pss_cons (ps_set (i := 2) sc_law.nd rfl (by first | exact .inl rfl | exact .inr rfl) (pe_c (cal_law_blocks T hN hT) hr (by decide) (by rfl) (pa_cons (pv 1) pa_nil)))
      (pss_cons (ps_set (i := 3) sc_law.nd rfl (by first | exact .inl rfl | exact .inr rfl) (pe_c (cal_law_joined T hN hT) hr (by decide) (by rfl) (pa_cons (pv 2) pa_nil)))
      (pss_cons (ps_set (i := 4) sc_law.nd rfl (by first | exact .inl rfl | exact .inr rfl) (pe_c (cal_law_basis T hN hT) hr (by decide) (by rfl) (pa_cons (pv 1) (pa_cons (pv 3) pa_nil))))
      (pss_cons (ps_set (i := 5) sc_law.nd rfl (by first | exact .inl rfl | exact .inr rfl) (pe_c (cal_law_inverse T hN hT) hr (by decide) (by rfl) (pa_cons (pv 4) pa_nil)))
      (pss_cons (ps_set (i := 6) sc_law.nd rfl (by first | exact .inl rfl | exact .inr rfl) (pe_mk (mak_Lattice T hN hT) hr (by decide) (by rfl) (pa_cons (pe_c (cal_law_moved T hN hT) hr (by decide) (by rfl) (pa_cons (pv 3) (pa_cons (pv 4) pa_nil))) pa_nil)))
      (pss_cons (ps_set (i := 7) sc_law.nd rfl (by first | exact .inl rfl | exact .inr rfl) (pe_tup pa_nil))
      (pss_cons (ps_set (i := 8) sc_law.nd rfl (by first | exact .inl rfl | exact .inr rfl) pe_int)
      (ch8 T hN hT hr)))))))))), ?_⟩
    refine ⟨_, rfl, a0, ns, rfl, hsc, hl, fun p H1 s1 np st1 => ?_⟩
    refine ⟨_, rfl, p, rfl, st1, fun bv bs H2 o2 st2 lb hbk n0 n3 => ?_⟩
    refine ⟨_, rfl, p, bv, bs, rfl, st2, lb, hbk, n3, fun gv H3 s3 hg => ?_⟩
    have D := join_dom hbk n0 n3
    have st3 := st2.same s3
    refine ⟨_, rfl, _, rfl, p, gv, joinM bs, bsum bs, rfl, st3, hg, D, fun rv U H4 o4 st4 hU u => ?_⟩
    have lU := u.sz.len
    have rU : ∀ r ∈ U, r.length = bsum bs ∧ l1 r ≤ 8 := fun r hr => ⟨u.sz.row r hr, u.l1 r hr⟩
    refine ⟨_, rfl, p, rv, U, bsum bs, 8, rfl, st4, hU.rows, ⟨lU, fun r hr => (rU r hr).1, fun r hr => bitsU (rU r hr).2⟩, n3, by decide, fun kv H5 s5 hk => ?_⟩
    have st5 := st4.same s5
    have hg5 := (hg.offp o4).same s5
    have hU5 := hU.same s5
    refine ⟨_, rfl, _, rfl, gv, rv, joinM bs, U, bsum bs, 10, rfl, hg5.rows, hU5.rows, D.gram.sq, fun r hr => ⟨(rU r hr).1, bitsU (rU r hr).2⟩, by omega, by omega, by decide, fun mv H6 s6 hm => ?_⟩
    have gm := mov_gram D rU (by omega) (by omega) (by rw [lU]; exact uni_pos D u)
    rw [lU] at gm
    obtain ⟨am, wm, rfl, ham, hpm⟩ := id hm
    intro x7 xd7 nx7 nxd7 nex7
    refine make_lat nx7 nxd7 (.inl (.inl ham)) (L2.Paired.mapP hpm fun _ _ ⟨q9, e9, h9⟩ => ⟨q9, e9, .inl (.inl (.inl h9))⟩) gm fun H7 s7 L7 => ⟨rfl, ?_⟩
    refine ⟨by show 0 ≤ sizeLine; decide, fun t8 nt8 => ?_⟩
    have s8 := same_upd (o := .tup []) nt8
    have ht8 : SqT K (upd H7 t8 (.tup [])) t8 [] := .inl (.inl upd_same)
    generalize upd H7 t8 (.tup []) = H8 at s8 ht8 ⊢
    have s57 := s6.trans s7
    have s58 := s57.trans s8
    have o28 : Off p H2 H8 := Off.trans (Off.trans (Same.off s3) o4) (Off.trans (Same.off s5) (Same.off s58))
    obtain ⟨ab, wb, rfl, nab, hab, hpb⟩ := id lb
    exact ⟨⟨some (.ref a0), some rv, p, ab, t8, wb, gv, kv, .ref x7, U, bs, rfl, ⟨st5.same s58, nab, o28 _ _ nab hab, L2.Paired.mapP hpb fun _ _ => LB.offp o28, hg5.same s58, hk.same s58, (show IsLat K T.C_Grid T.C_Lattice H8 (.ref x7) _ _ from latS (st5.same s57) (Same.off s8) L7), ht8, .nil, ⟨rfl, fun t h => absurd h (Nat.not_lt_zero _)⟩⟩, hbk, n0, n3, u⟩, q⟩

end
end K39
namespace K39
open PySem PySem.Spec PyProof.Rows L2 Gm
theorem all_mk {l : PySem.W.OpenLaw} {w : World} {K : PySem.W.Frag} {h : Heap} {mg : Str → Option Value} {fa C_Grid C_Lattice X_Malformed f1 f2 f3 f4 f5 f6 f7 f8 f9 f10 f11 f12 f13 f14 f15 f16 f17 f18 f19 f20 f21 f22 f23 f24 f25 f26 f27 f28 f29 f30 f31 f32 f33 f34 f35 f36 f37 f38 f39 f40 f41 f42 f43 : Addr} (X : K.In h) (G : h.Ns mainGlobals mg) (hfa : mg "law" = some (.ref fa)) (hT : l.prog.given.tree = none)
    {od1 an1 od2 an2 od3 an3 od4 an4 od5 an5 od6 an6 od7 an7 od8 an8 od9 an9 od10 an10 od11 an11 od12 an12 od13 an13 od14 an14 od15 an15 od16 an16 od17 an17 od18 an18 od19 an19 od20 an20 od21 an21 od22 an22 od23 an23 od24 an24 od25 an25 od26 an26 od27 an27 od28 an28 od29 an29 od30 an30 od31 an31 od32 an32 od33 an33 od34 an34 od35 an35 od36 an36 od37 an37 od38 an38 od39 an39 od40 an40 od41 an41 od42 an42 od43 an43 : Option Addr} {sl1 sl2 sl3 sl4 sl5 sl6 sl7 sl8 sl9 sl10 sl11 sl12 sl13 sl14 sl15 sl16 sl17 sl18 sl19 sl20 sl21 sl22 sl23 sl24 sl25 sl26 sl27 sl28 sl29 sl30 sl31 sl32 sl33 sl34 sl35 sl36 sl37 sl38 sl39 sl40 sl41 sl42 sl43 : Array (Option Value)} {oc1 kV1 dc1 pm1 cd1 ct1 oc2 kV2 dc2 pm2 cd2 ct2 oc3 kV3 dc3 pm3 cd3 ct3 oc4 kV4 dc4 pm4 cd4 ct4 oc5 kV5 dc5 pm5 cd5 ct5 oc6 kV6 dc6 pm6 cd6 ct6 oc7 kV7 dc7 pm7 cd7 ct7 oc8 kV8 dc8 pm8 cd8 ct8 oc9 kV9 dc9 pm9 cd9 ct9 oc10 kV10 dc10 pm10 cd10 ct10 oc11 kV11 dc11 pm11 cd11 ct11 oc12 kV12 dc12 pm12 cd12 ct12 oc13 kV13 dc13 pm13 cd13 ct13 oc14 kV14 dc14 pm14 cd14 ct14 oc15 kV15 dc15 pm15 cd15 ct15 oc16 kV16 dc16 pm16 cd16 ct16 oc17 kV17 dc17 pm17 cd17 ct17 oc18 kV18 dc18 pm18 cd18 ct18 oc19 kV19 dc19 pm19 cd19 ct19 oc20 kV20 dc20 pm20 cd20 ct20 oc21 kV21 dc21 pm21 cd21 ct21 oc22 kV22 dc22 pm22 cd22 ct22 oc23 kV23 dc23 pm23 cd23 ct23 oc24 kV24 dc24 pm24 cd24 ct24 oc25 kV25 dc25 pm25 cd25 ct25 oc26 kV26 dc26 pm26 cd26 ct26 oc27 kV27 dc27 pm27 cd27 ct27 oc28 kV28 dc28 pm28 cd28 ct28 oc29 kV29 dc29 pm29 cd29 ct29 oc30 kV30 dc30 pm30 cd30 ct30 oc31 kV31 dc31 pm31 cd31 ct31 oc32 kV32 dc32 pm32 cd32 ct32 oc33 kV33 dc33 pm33 cd33 ct33 oc34 kV34 dc34 pm34 cd34 ct34 oc35 kV35 dc35 pm35 cd35 ct35 oc36 kV36 dc36 pm36 cd36 ct36 oc37 kV37 dc37 pm37 cd37 ct37 oc38 kV38 dc38 pm38 cd38 ct38 oc39 kV39 dc39 pm39 cd39 ct39 oc40 kV40 dc40 pm40 cd40 ct40 oc41 kV41 dc41 pm41 cd41 ct41 oc42 kV42 dc42 pm42 cd42 ct42 oc43 kV43 dc43 pm43 cd43 ct43 : Value}
    {t13 : Addr} {tc13 : Value} {td13 : Option Addr} {tn13 : Nat} {ts13 : Array (Option Value)}
    {tk_MOST tk_MOST_ROWS : Tok}
    (A1 : PySem.W.nsIn K mainGlobals "is_integer" = some (some (.ref f1)))
    (L1 : K.lookup f1 = some ⟨oc1, od1, .func (PySem.W.fnOf "is_integer" "is_integer" (defArgs s_is_integer) (defBody s_is_integer) (defScope s_is_integer) .none kV1 dc1 pm1 an1 cd1 ct1), sl1⟩)
    (D1 : PySem.W.codeIn K cd1 "is_integer" = true)
    (K1 : PySem.W.keepIn K (.ref f1) = true)
    (A2 : PySem.W.nsIn K mainGlobals "cofactors" = some (some (.ref f2)))
    (L2 : K.lookup f2 = some ⟨oc2, od2, .func (PySem.W.fnOf "cofactors" "cofactors" (defArgs s_cofactors) (defBody s_cofactors) (defScope s_cofactors) .none kV2 dc2 pm2 an2 cd2 ct2), sl2⟩)
    (D2 : PySem.W.codeIn K cd2 "cofactors" = true)
    (K2 : PySem.W.keepIn K (.ref f2) = true)
    (A3 : PySem.W.nsIn K mainGlobals "dot" = some (some (.ref f3)))
    (L3 : K.lookup f3 = some ⟨oc3, od3, .func (PySem.W.fnOf "dot" "dot" (defArgs s_dot) (defBody s_dot) (defScope s_dot) .none kV3 dc3 pm3 an3 cd3 ct3), sl3⟩)
    (D3 : PySem.W.codeIn K cd3 "dot" = true)
    (K3 : PySem.W.keepIn K (.ref f3) = true)
    (A4 : PySem.W.nsIn K mainGlobals "hermite_rows" = some (some (.ref f4)))
    (L4 : K.lookup f4 = some ⟨oc4, od4, .func (PySem.W.fnOf "hermite_rows" "hermite_rows" (defArgs s_hermite_rows) (defBody s_hermite_rows) (defScope s_hermite_rows) .none kV4 dc4 pm4 an4 cd4 ct4), sl4⟩)
    (D4 : PySem.W.codeIn K cd4 "hermite_rows" = true)
    (K4 : PySem.W.keepIn K (.ref f4) = true)
    (A5 : PySem.W.nsIn K mainGlobals "with_row" = some (some (.ref f5)))
    (L5 : K.lookup f5 = some ⟨oc5, od5, .func (PySem.W.fnOf "with_row" "with_row" (defArgs s_with_row) (defBody s_with_row) (defScope s_with_row) .none kV5 dc5 pm5 an5 cd5 ct5), sl5⟩)
    (D5 : PySem.W.codeIn K cd5 "with_row" = true)
    (K5 : PySem.W.keepIn K (.ref f5) = true)
    (A6 : PySem.W.nsIn K mainGlobals "merged" = some (some (.ref f6)))
    (L6 : K.lookup f6 = some ⟨oc6, od6, .func (PySem.W.fnOf "merged" "merged" (defArgs s_merged) (defBody s_merged) (defScope s_merged) .none kV6 dc6 pm6 an6 cd6 ct6), sl6⟩)
    (D6 : PySem.W.codeIn K cd6 "merged" = true)
    (K6 : PySem.W.keepIn K (.ref f6) = true)
    (A7 : PySem.W.nsIn K mainGlobals "mixed" = some (some (.ref f7)))
    (L7 : K.lookup f7 = some ⟨oc7, od7, .func (PySem.W.fnOf "mixed" "mixed" (defArgs s_mixed) (defBody s_mixed) (defScope s_mixed) .none kV7 dc7 pm7 an7 cd7 ct7), sl7⟩)
    (D7 : PySem.W.codeIn K cd7 "mixed" = true)
    (K7 : PySem.W.keepIn K (.ref f7) = true)
    (A8 : PySem.W.nsIn K mainGlobals "tidied" = some (some (.ref f8)))
    (L8 : K.lookup f8 = some ⟨oc8, od8, .func (PySem.W.fnOf "tidied" "tidied" (defArgs s_tidied) (defBody s_tidied) (defScope s_tidied) .none kV8 dc8 pm8 an8 cd8 ct8), sl8⟩)
    (D8 : PySem.W.codeIn K cd8 "tidied" = true)
    (K8 : PySem.W.keepIn K (.ref f8) = true)
    (A9 : PySem.W.nsIn K mainGlobals "reduced" = some (some (.ref f9)))
    (L9 : K.lookup f9 = some ⟨oc9, od9, .func (PySem.W.fnOf "reduced" "reduced" (defArgs s_reduced) (defBody s_reduced) (defScope s_reduced) .none kV9 dc9 pm9 an9 cd9 ct9), sl9⟩)
    (D9 : PySem.W.codeIn K cd9 "reduced" = true)
    (K9 : PySem.W.keepIn K (.ref f9) = true)
    (A10 : PySem.W.nsIn K mainGlobals "determinant_of" = some (some (.ref f10)))
    (L10 : K.lookup f10 = some ⟨oc10, od10, .func (PySem.W.fnOf "determinant_of" "determinant_of" (defArgs s_determinant_of) (defBody s_determinant_of) (defScope s_determinant_of) .none kV10 dc10 pm10 an10 cd10 ct10), sl10⟩)
    (D10 : PySem.W.codeIn K cd10 "determinant_of" = true)
    (K10 : PySem.W.keepIn K (.ref f10) = true)
    (A11 : PySem.W.nsIn K mainGlobals "first_with_head" = some (some (.ref f11)))
    (L11 : K.lookup f11 = some ⟨oc11, od11, .func (PySem.W.fnOf "first_with_head" "first_with_head" (defArgs s_first_with_head) (defBody s_first_with_head) (defScope s_first_with_head) .none kV11 dc11 pm11 an11 cd11 ct11), sl11⟩)
    (D11 : PySem.W.codeIn K cd11 "first_with_head" = true)
    (K11 : PySem.W.keepIn K (.ref f11) = true)
    (A12 : PySem.W.nsIn K mainGlobals "cleared" = some (some (.ref f12)))
    (L12 : K.lookup f12 = some ⟨oc12, od12, .func (PySem.W.fnOf "cleared" "cleared" (defArgs s_cleared) (defBody s_cleared) (defScope s_cleared) .none kV12 dc12 pm12 an12 cd12 ct12), sl12⟩)
    (D12 : PySem.W.codeIn K cd12 "cleared" = true)
    (K12 : PySem.W.keepIn K (.ref f12) = true)
    (A13 : PySem.W.findIn K (.ref C_Grid) "__init__" = some (some (.ref f13)))
    (I13 : PySem.W.isFn K (.ref f13) = true)
    (L13 : K.lookup f13 = some ⟨oc13, od13, .func (PySem.W.fnOf "__init__" "Grid.__init__" (defArgs s_Grid_init) (defBody s_Grid_init) (defScope s_Grid_init) (.ref t13) kV13 dc13 pm13 an13 cd13 ct13), sl13⟩)
    (T13 : K.lookup t13 = some ⟨tc13, td13, .seq [Value.none].toArray tn13, ts13⟩)
    (D13 : PySem.W.codeIn K cd13 "Grid.__init__" = true)
    (K13 : PySem.W.keepIn K (.ref f13) = true)
    (A14 : PySem.W.findIn K (.ref C_Grid) "__eq__" = some (some (.ref f14)))
    (I14 : PySem.W.isFn K (.ref f14) = true)
    (L14 : K.lookup f14 = some ⟨oc14, od14, .func (PySem.W.fnOf "__eq__" "Grid.__eq__" (defArgs s_Grid_eq) (defBody s_Grid_eq) (defScope s_Grid_eq) .none kV14 dc14 pm14 an14 cd14 ct14), sl14⟩)
    (D14 : PySem.W.codeIn K cd14 "Grid.__eq__" = true)
    (K14 : PySem.W.keepIn K (.ref f14) = true)
    (A15 : PySem.W.findIn K (.ref C_Grid) "__mul__" = some (some (.ref f15)))
    (I15 : PySem.W.isFn K (.ref f15) = true)
    (L15 : K.lookup f15 = some ⟨oc15, od15, .func (PySem.W.fnOf "__mul__" "Grid.__mul__" (defArgs s_Grid_mul) (defBody s_Grid_mul) (defScope s_Grid_mul) .none kV15 dc15 pm15 an15 cd15 ct15), sl15⟩)
    (D15 : PySem.W.codeIn K cd15 "Grid.__mul__" = true)
    (K15 : PySem.W.keepIn K (.ref f15) = true)
    (A16 : PySem.W.findIn K (.ref C_Grid) "transposed" = some (some (.ref f16)))
    (I16 : PySem.W.isFn K (.ref f16) = true)
    (L16 : K.lookup f16 = some ⟨oc16, od16, .func (PySem.W.fnOf "transposed" "Grid.transposed" (defArgs s_Grid_transposed) (defBody s_Grid_transposed) (defScope s_Grid_transposed) .none kV16 dc16 pm16 an16 cd16 ct16), sl16⟩)
    (D16 : PySem.W.codeIn K cd16 "Grid.transposed" = true)
    (K16 : PySem.W.keepIn K (.ref f16) = true)
    (A17 : PySem.W.findIn K (.ref C_Grid) "is_square" = some (some (.ref f17)))
    (I17 : PySem.W.isFn K (.ref f17) = true)
    (L17 : K.lookup f17 = some ⟨oc17, od17, .func (PySem.W.fnOf "is_square" "Grid.is_square" (defArgs s_Grid_is_square) (defBody s_Grid_is_square) (defScope s_Grid_is_square) .none kV17 dc17 pm17 an17 cd17 ct17), sl17⟩)
    (D17 : PySem.W.codeIn K cd17 "Grid.is_square" = true)
    (K17 : PySem.W.keepIn K (.ref f17) = true)
    (A18 : PySem.W.findIn K (.ref C_Grid) "determinant" = some (some (.ref f18)))
    (I18 : PySem.W.isFn K (.ref f18) = true)
    (L18 : K.lookup f18 = some ⟨oc18, od18, .func (PySem.W.fnOf "determinant" "Grid.determinant" (defArgs s_Grid_determinant) (defBody s_Grid_determinant) (defScope s_Grid_determinant) .none kV18 dc18 pm18 an18 cd18 ct18), sl18⟩)
    (D18 : PySem.W.codeIn K cd18 "Grid.determinant" = true)
    (K18 : PySem.W.keepIn K (.ref f18) = true)
    (A19 : PySem.W.findIn K (.ref C_Grid) "is_unimodular" = some (some (.ref f19)))
    (I19 : PySem.W.isFn K (.ref f19) = true)
    (L19 : K.lookup f19 = some ⟨oc19, od19, .func (PySem.W.fnOf "is_unimodular" "Grid.is_unimodular" (defArgs s_Grid_is_unimodular) (defBody s_Grid_is_unimodular) (defScope s_Grid_is_unimodular) .none kV19 dc19 pm19 an19 cd19 ct19), sl19⟩)
    (D19 : PySem.W.codeIn K cd19 "Grid.is_unimodular" = true)
    (K19 : PySem.W.keepIn K (.ref f19) = true)
    (A20 : PySem.W.findIn K (.ref C_Grid) "rank" = some (some (.ref f20)))
    (I20 : PySem.W.isFn K (.ref f20) = true)
    (L20 : K.lookup f20 = some ⟨oc20, od20, .func (PySem.W.fnOf "rank" "Grid.rank" (defArgs s_Grid_rank) (defBody s_Grid_rank) (defScope s_Grid_rank) .none kV20 dc20 pm20 an20 cd20 ct20), sl20⟩)
    (D20 : PySem.W.codeIn K cd20 "Grid.rank" = true)
    (K20 : PySem.W.keepIn K (.ref f20) = true)
    (A21 : PySem.W.nsIn K mainGlobals "checked_rows" = some (some (.ref f21)))
    (L21 : K.lookup f21 = some ⟨oc21, od21, .func (PySem.W.fnOf "checked_rows" "checked_rows" (defArgs s_checked_rows) (defBody s_checked_rows) (defScope s_checked_rows) .none kV21 dc21 pm21 an21 cd21 ct21), sl21⟩)
    (D21 : PySem.W.codeIn K cd21 "checked_rows" = true)
    (K21 : PySem.W.keepIn K (.ref f21) = true)
    (A22 : PySem.W.nsIn K mainGlobals "checked_width" = some (some (.ref f22)))
    (L22 : K.lookup f22 = some ⟨oc22, od22, .func (PySem.W.fnOf "checked_width" "checked_width" (defArgs s_checked_width) (defBody s_checked_width) (defScope s_checked_width) .none kV22 dc22 pm22 an22 cd22 ct22), sl22⟩)
    (D22 : PySem.W.codeIn K cd22 "checked_width" = true)
    (K22 : PySem.W.keepIn K (.ref f22) = true)
    (A23 : PySem.W.nsIn K mainGlobals "check_square" = some (some (.ref f23)))
    (L23 : K.lookup f23 = some ⟨oc23, od23, .func (PySem.W.fnOf "check_square" "check_square" (defArgs s_check_square) (defBody s_check_square) (defScope s_check_square) .none kV23 dc23 pm23 an23 cd23 ct23), sl23⟩)
    (D23 : PySem.W.codeIn K cd23 "check_square" = true)
    (K23 : PySem.W.keepIn K (.ref f23) = true)
    (A24 : PySem.W.findIn K (.ref C_Lattice) "__init__" = some (some (.ref f24)))
    (I24 : PySem.W.isFn K (.ref f24) = true)
    (L24 : K.lookup f24 = some ⟨oc24, od24, .func (PySem.W.fnOf "__init__" "Lattice.__init__" (defArgs s_Lattice_init) (defBody s_Lattice_init) (defScope s_Lattice_init) .none kV24 dc24 pm24 an24 cd24 ct24), sl24⟩)
    (D24 : PySem.W.codeIn K cd24 "Lattice.__init__" = true)
    (K24 : PySem.W.keepIn K (.ref f24) = true)
    (A25 : PySem.W.findIn K (.ref C_Lattice) "rank" = some (some (.ref f25)))
    (I25 : PySem.W.isFn K (.ref f25) = true)
    (L25 : K.lookup f25 = some ⟨oc25, od25, .func (PySem.W.fnOf "rank" "Lattice.rank" (defArgs s_Lattice_rank) (defBody s_Lattice_rank) (defScope s_Lattice_rank) .none kV25 dc25 pm25 an25 cd25 ct25), sl25⟩)
    (D25 : PySem.W.codeIn K cd25 "Lattice.rank" = true)
    (K25 : PySem.W.keepIn K (.ref f25) = true)
    (A26 : PySem.W.findIn K (.ref C_Lattice) "determinant" = some (some (.ref f26)))
    (I26 : PySem.W.isFn K (.ref f26) = true)
    (L26 : K.lookup f26 = some ⟨oc26, od26, .func (PySem.W.fnOf "determinant" "Lattice.determinant" (defArgs s_Lattice_determinant) (defBody s_Lattice_determinant) (defScope s_Lattice_determinant) .none kV26 dc26 pm26 an26 cd26 ct26), sl26⟩)
    (D26 : PySem.W.codeIn K cd26 "Lattice.determinant" = true)
    (K26 : PySem.W.keepIn K (.ref f26) = true)
    (A27 : PySem.W.nsIn K mainGlobals "checked_gram" = some (some (.ref f27)))
    (L27 : K.lookup f27 = some ⟨oc27, od27, .func (PySem.W.fnOf "checked_gram" "checked_gram" (defArgs s_checked_gram) (defBody s_checked_gram) (defScope s_checked_gram) .none kV27 dc27 pm27 an27 cd27 ct27), sl27⟩)
    (D27 : PySem.W.codeIn K cd27 "checked_gram" = true)
    (K27 : PySem.W.keepIn K (.ref f27) = true)
    (A28 : PySem.W.nsIn K mainGlobals "is_positive" = some (some (.ref f28)))
    (L28 : K.lookup f28 = some ⟨oc28, od28, .func (PySem.W.fnOf "is_positive" "is_positive" (defArgs s_is_positive) (defBody s_is_positive) (defScope s_is_positive) .none kV28 dc28 pm28 an28 cd28 ct28), sl28⟩)
    (D28 : PySem.W.codeIn K cd28 "is_positive" = true)
    (K28 : PySem.W.keepIn K (.ref f28) = true)
    (A29 : PySem.W.nsIn K mainGlobals "is_parting" = some (some (.ref f29)))
    (L29 : K.lookup f29 = some ⟨oc29, od29, .func (PySem.W.fnOf "is_parting" "is_parting" (defArgs s_is_parting) (defBody s_is_parting) (defScope s_is_parting) .none kV29 dc29 pm29 an29 cd29 ct29), sl29⟩)
    (D29 : PySem.W.codeIn K cd29 "is_parting" = true)
    (K29 : PySem.W.keepIn K (.ref f29) = true)
    (A30 : PySem.W.nsIn K mainGlobals "is_orthogonal" = some (some (.ref f30)))
    (L30 : K.lookup f30 = some ⟨oc30, od30, .func (PySem.W.fnOf "is_orthogonal" "is_orthogonal" (defArgs s_is_orthogonal) (defBody s_is_orthogonal) (defScope s_is_orthogonal) .none kV30 dc30 pm30 an30 cd30 ct30), sl30⟩)
    (D30 : PySem.W.codeIn K cd30 "is_orthogonal" = true)
    (K30 : PySem.W.keepIn K (.ref f30) = true)
    (A31 : PySem.W.nsIn K mainGlobals "_law_state" = some (some (.ref f31)))
    (L31 : K.lookup f31 = some ⟨oc31, od31, .func (PySem.W.fnOf "_law_state" "_law_state" (defArgs s_law_state) (defBody s_law_state) (defScope s_law_state) .none kV31 dc31 pm31 an31 cd31 ct31), sl31⟩)
    (D31 : PySem.W.codeIn K cd31 "_law_state" = true)
    (K31 : PySem.W.keepIn K (.ref f31) = true)
    (A32 : PySem.W.nsIn K mainGlobals "_law_take" = some (some (.ref f32)))
    (L32 : K.lookup f32 = some ⟨oc32, od32, .func (PySem.W.fnOf "_law_take" "_law_take" (defArgs s_law_take) (defBody s_law_take) (defScope s_law_take) .none kV32 dc32 pm32 an32 cd32 ct32), sl32⟩)
    (D32 : PySem.W.codeIn K cd32 "_law_take" = true)
    (K32 : PySem.W.keepIn K (.ref f32) = true)
    (A33 : PySem.W.nsIn K mainGlobals "_law_unimodular" = some (some (.ref f33)))
    (L33 : K.lookup f33 = some ⟨oc33, od33, .func (PySem.W.fnOf "_law_unimodular" "_law_unimodular" (defArgs s_law_unimodular) (defBody s_law_unimodular) (defScope s_law_unimodular) .none kV33 dc33 pm33 an33 cd33 ct33), sl33⟩)
    (D33 : PySem.W.codeIn K cd33 "_law_unimodular" = true)
    (K33 : PySem.W.keepIn K (.ref f33) = true)
    (A34 : PySem.W.nsIn K mainGlobals "_law_product" = some (some (.ref f34)))
    (L34 : K.lookup f34 = some ⟨oc34, od34, .func (PySem.W.fnOf "_law_product" "_law_product" (defArgs s_law_product) (defBody s_law_product) (defScope s_law_product) .none kV34 dc34 pm34 an34 cd34 ct34), sl34⟩)
    (D34 : PySem.W.codeIn K cd34 "_law_product" = true)
    (K34 : PySem.W.keepIn K (.ref f34) = true)
    (A35 : PySem.W.nsIn K mainGlobals "_law_moved" = some (some (.ref f35)))
    (L35 : K.lookup f35 = some ⟨oc35, od35, .func (PySem.W.fnOf "_law_moved" "_law_moved" (defArgs s_law_moved) (defBody s_law_moved) (defScope s_law_moved) .none kV35 dc35 pm35 an35 cd35 ct35), sl35⟩)
    (D35 : PySem.W.codeIn K cd35 "_law_moved" = true)
    (K35 : PySem.W.keepIn K (.ref f35) = true)
    (A36 : PySem.W.nsIn K mainGlobals "_law_minor" = some (some (.ref f36)))
    (L36 : K.lookup f36 = some ⟨oc36, od36, .func (PySem.W.fnOf "_law_minor" "_law_minor" (defArgs s_law_minor) (defBody s_law_minor) (defScope s_law_minor) .none kV36 dc36 pm36 an36 cd36 ct36), sl36⟩)
    (D36 : PySem.W.codeIn K cd36 "_law_minor" = true)
    (K36 : PySem.W.keepIn K (.ref f36) = true)
    (A37 : PySem.W.nsIn K mainGlobals "_law_determinant" = some (some (.ref f37)))
    (L37 : K.lookup f37 = some ⟨oc37, od37, .func (PySem.W.fnOf "_law_determinant" "_law_determinant" (defArgs s_law_determinant) (defBody s_law_determinant) (defScope s_law_determinant) .none kV37 dc37 pm37 an37 cd37 ct37), sl37⟩)
    (D37 : PySem.W.codeIn K cd37 "_law_determinant" = true)
    (K37 : PySem.W.keepIn K (.ref f37) = true)
    (A38 : PySem.W.nsIn K mainGlobals "_law_blocks" = some (some (.ref f38)))
    (L38 : K.lookup f38 = some ⟨oc38, od38, .func (PySem.W.fnOf "_law_blocks" "_law_blocks" (defArgs s_law_blocks) (defBody s_law_blocks) (defScope s_law_blocks) .none kV38 dc38 pm38 an38 cd38 ct38), sl38⟩)
    (D38 : PySem.W.codeIn K cd38 "_law_blocks" = true)
    (K38 : PySem.W.keepIn K (.ref f38) = true)
    (A39 : PySem.W.nsIn K mainGlobals "_law_joined" = some (some (.ref f39)))
    (L39 : K.lookup f39 = some ⟨oc39, od39, .func (PySem.W.fnOf "_law_joined" "_law_joined" (defArgs s_law_joined) (defBody s_law_joined) (defScope s_law_joined) .none kV39 dc39 pm39 an39 cd39 ct39), sl39⟩)
    (D39 : PySem.W.codeIn K cd39 "_law_joined" = true)
    (K39 : PySem.W.keepIn K (.ref f39) = true)
    (A40 : PySem.W.nsIn K mainGlobals "_law_basis" = some (some (.ref f40)))
    (L40 : K.lookup f40 = some ⟨oc40, od40, .func (PySem.W.fnOf "_law_basis" "_law_basis" (defArgs s_law_basis) (defBody s_law_basis) (defScope s_law_basis) .none kV40 dc40 pm40 an40 cd40 ct40), sl40⟩)
    (D40 : PySem.W.codeIn K cd40 "_law_basis" = true)
    (K40 : PySem.W.keepIn K (.ref f40) = true)
    (A41 : PySem.W.nsIn K mainGlobals "_law_inverse" = some (some (.ref f41)))
    (L41 : K.lookup f41 = some ⟨oc41, od41, .func (PySem.W.fnOf "_law_inverse" "_law_inverse" (defArgs s_law_inverse) (defBody s_law_inverse) (defScope s_law_inverse) .none kV41 dc41 pm41 an41 cd41 ct41), sl41⟩)
    (D41 : PySem.W.codeIn K cd41 "_law_inverse" = true)
    (K41 : PySem.W.keepIn K (.ref f41) = true)
    (A42 : PySem.W.nsIn K mainGlobals "_law_spoilt" = some (some (.ref f42)))
    (L42 : K.lookup f42 = some ⟨oc42, od42, .func (PySem.W.fnOf "_law_spoilt" "_law_spoilt" (defArgs s_law_spoilt) (defBody s_law_spoilt) (defScope s_law_spoilt) .none kV42 dc42 pm42 an42 cd42 ct42), sl42⟩)
    (D42 : PySem.W.codeIn K cd42 "_law_spoilt" = true)
    (K42 : PySem.W.keepIn K (.ref f42) = true)
    (A43 : PySem.W.nsIn K mainGlobals "law" = some (some (.ref f43)))
    (L43 : K.lookup f43 = some ⟨oc43, od43, .func (PySem.W.fnOf "law" "law" (defArgs s_law) (defBody s_law) (defScope s_law) .none kV43 dc43 pm43 an43 cd43 ct43), sl43⟩)
    (D43 : PySem.W.codeIn K cd43 "law" = true)
    (K43 : PySem.W.keepIn K (.ref f43) = true)
    (aC_Grid : PySem.W.nsIn K mainGlobals "Grid" = some (some (.ref C_Grid)))
    (pg_Grid : PySem.W.plainGet K C_Grid Str.empty = true)
    (hd_Grid : PySem.W.hasDictIn K C_Grid = true)
    (po_Grid : PySem.W.plainOver K C_Grid = true)
    (sa_Grid : PySem.W.findIn K (.ref C_Grid) "__setattr__" = some (some (.builtin "object.__setattr__")))
    (mk_Grid : PySem.W.makesIn K C_Grid = true)
    (kc_Grid : PySem.W.keepIn K (.ref C_Grid) = true)
    (nrows_Grid : PySem.W.findIn K (.ref C_Grid) "rows" = some none)
    (nwidth_Grid : PySem.W.findIn K (.ref C_Grid) "width" = some none)
    (sf_Grid : PySem.W.selfFirst K C_Grid = true)
    (yc_Grid : PySem.W.findIn K (.ref C_Grid) "__class__" = some (some (.builtin "object.__class__")))
    (yg_Grid : PySem.W.specialIn K (.builtin "object.__class__") "__get__" = some (some (.builtin "getset_descriptor.__get__")))
    (yt_Grid : PySem.W.takesIn K (.builtin "object.__class__") = some true)
    (ym_Grid : PySem.W.mroIn K C_Grid (.type "object") = some true)
    (yt2_Grid : PySem.W.typeIn K (.ref C_Grid) = some (.type "type"))
    (yi_Grid : PySem.W.isClsIn K C_Grid = true)
    (yn_Grid : PySem.W.findIn K (.ref C_Grid) "__ne__" = some (some (.builtin "object.__ne__")))
    (aC_Lattice : PySem.W.nsIn K mainGlobals "Lattice" = some (some (.ref C_Lattice)))
    (pg_Lattice : PySem.W.plainGet K C_Lattice Str.empty = true)
    (hd_Lattice : PySem.W.hasDictIn K C_Lattice = true)
    (po_Lattice : PySem.W.plainOver K C_Lattice = true)
    (sa_Lattice : PySem.W.findIn K (.ref C_Lattice) "__setattr__" = some (some (.builtin "object.__setattr__")))
    (mk_Lattice : PySem.W.makesIn K C_Lattice = true)
    (kc_Lattice : PySem.W.keepIn K (.ref C_Lattice) = true)
    (ngram_Lattice : PySem.W.findIn K (.ref C_Lattice) "gram" = some none)
    (sf_Lattice : PySem.W.selfFirst K C_Lattice = true)
    (yc_Lattice : PySem.W.findIn K (.ref C_Lattice) "__class__" = some (some (.builtin "object.__class__")))
    (yg_Lattice : PySem.W.specialIn K (.builtin "object.__class__") "__get__" = some (some (.builtin "getset_descriptor.__get__")))
    (yt_Lattice : PySem.W.takesIn K (.builtin "object.__class__") = some true)
    (ym_Lattice : PySem.W.mroIn K C_Lattice (.type "object") = some true)
    (yt2_Lattice : PySem.W.typeIn K (.ref C_Lattice) = some (.type "type"))
    (yi_Lattice : PySem.W.isClsIn K C_Lattice = true)
    (yn_Lattice : PySem.W.findIn K (.ref C_Lattice) "__ne__" = some (some (.builtin "object.__ne__")))
    (sub_GL : PySem.W.subIn K (.ref C_Grid) (.ref C_Lattice) = some false)
    (sX_L : PySem.W.subIn K (.ref C_Lattice) (.ref C_Lattice) = some true)
    (sub_GT : PySem.W.subIn K (.ref C_Grid) (.type "tuple") = some false)
    (c_MOST : PySem.W.nsIn K mainGlobals "MOST" = some (some (.int 10000 tk_MOST)))
    (c_MOST_ROWS : PySem.W.nsIn K mainGlobals "MOST_ROWS" = some (some (.int 4 tk_MOST_ROWS)))
    (z_ValueError : PySem.W.nsIn K mainGlobals "ValueError" = some none)
    (z_abs : PySem.W.nsIn K mainGlobals "abs" = some none)
    (z_all : PySem.W.nsIn K mainGlobals "all" = some none)
    (z_any : PySem.W.nsIn K mainGlobals "any" = some none)
    (z_bool : PySem.W.nsIn K mainGlobals "bool" = some none)
    (z_dict : PySem.W.nsIn K mainGlobals "dict" = some none)
    (z_enumerate : PySem.W.nsIn K mainGlobals "enumerate" = some none)
    (z_int : PySem.W.nsIn K mainGlobals "int" = some none)
    (z_isinstance : PySem.W.nsIn K mainGlobals "isinstance" = some none)
    (z_len : PySem.W.nsIn K mainGlobals "len" = some none)
    (z_list : PySem.W.nsIn K mainGlobals "list" = some none)
    (z_max : PySem.W.nsIn K mainGlobals "max" = some none)
    (z_range : PySem.W.nsIn K mainGlobals "range" = some none)
    (z_sorted : PySem.W.nsIn K mainGlobals "sorted" = some none)
    (z_sum : PySem.W.nsIn K mainGlobals "sum" = some none)
    (z_tuple : PySem.W.nsIn K mainGlobals "tuple" = some none)
    (z_zip : PySem.W.nsIn K mainGlobals "zip" = some none)
    (aX_Malformed : PySem.W.nsIn K mainGlobals "Malformed" = some (some (.ref X_Malformed)))
    (xX_Malformed : PySem.W.excIn K X_Malformed [.type "ValueError", .type "Exception", .type "BaseException", .type "object"] "ValueError.__new__" = true)
    (kX_Malformed : PySem.W.keepIn K (.ref X_Malformed) = true)
    (bX_Malformed : PySem.W.subIn K (.ref X_Malformed) (.type "BaseException") = some true)
    (tX_Malformed : PySem.W.typeIn K (.ref X_Malformed) = some (.type "type"))
    (iX_Malformed : PySem.W.isClsIn K X_Malformed = true)
    (sX_Malformed : PySem.W.subIn K (.ref X_Malformed) (.ref X_Malformed) = some true)
    : ∃ fd : FuncData, (∀ (s : Shared) (v : Value), BindsTo s fd ⟨[v], []⟩ [("script", v)]) ∧ ∀ base : Heap, K.In base → base.Ns mainGlobals mg → base.NoSeer → FnOk l.prog w K mg base CX0 48 fa fd ["script"] (sp_law K) := by
  have e := hfa.symm.trans (PySem.W.mg_of X G A43)
  cases e
  have F1 := fun_mk (st := s_is_integer) L1 D1 K1
  have b1 := F1.binds (ps := ["value"]) fun _ _ _ _ _ _ us hl => match us, hl with | [_], _ => rfl
  have F2 := fun_mk (st := s_cofactors) L2 D2 K2
  have b2 := F2.binds (ps := ["a", "b"]) fun _ _ _ _ _ _ us hl => match us, hl with | [_, _], _ => rfl
  have F3 := fun_mk (st := s_dot) L3 D3 K3
  have b3 := F3.binds (ps := ["a", "b"]) fun _ _ _ _ _ _ us hl => match us, hl with | [_, _], _ => rfl
  have F4 := fun_mk (st := s_hermite_rows) L4 D4 K4
  have b4 := F4.binds (ps := ["rows"]) fun _ _ _ _ _ _ us hl => match us, hl with | [_], _ => rfl
  have F5 := fun_mk (st := s_with_row) L5 D5 K5
  have b5 := F5.binds (ps := ["tops", "row"]) fun _ _ _ _ _ _ us hl => match us, hl with | [_, _], _ => rfl
  have F6 := fun_mk (st := s_merged) L6 D6 K6
  have b6 := F6.binds (ps := ["top", "row", "column"]) fun _ _ _ _ _ _ us hl => match us, hl with | [_, _, _], _ => rfl
  have F7 := fun_mk (st := s_mixed) L7 D7 K7
  have b7 := F7.binds (ps := ["a", "first", "b", "second"]) fun _ _ _ _ _ _ us hl => match us, hl with | [_, _, _, _], _ => rfl
  have F8 := fun_mk (st := s_tidied) L8 D8 K8
  have b8 := F8.binds (ps := ["tops"]) fun _ _ _ _ _ _ us hl => match us, hl with | [_], _ => rfl
  have F9 := fun_mk (st := s_reduced) L9 D9 K9
  have b9 := F9.binds (ps := ["row", "tops"]) fun _ _ _ _ _ _ us hl => match us, hl with | [_, _], _ => rfl
  have F10 := fun_mk (st := s_determinant_of) L10 D10 K10
  have b10 := F10.binds (ps := ["rows"]) fun _ _ _ _ _ _ us hl => match us, hl with | [_], _ => rfl
  have F11 := fun_mk (st := s_first_with_head) L11 D11 K11
  have b11 := F11.binds (ps := ["rows"]) fun _ _ _ _ _ _ us hl => match us, hl with | [_], _ => rfl
  have F12 := fun_mk (st := s_cleared) L12 D12 K12
  have b12 := F12.binds (ps := ["top", "row", "last"]) fun _ _ _ _ _ _ us hl => match us, hl with | [_, _, _], _ => rfl
  have F13 : FunD K "__init__" "Grid.__init__" (defArgs s_Grid_init) (defBody s_Grid_init) (defScope s_Grid_init) [.non] [] f13 _ := ⟨⟨oc13, od13, _, kV13, dc13, pm13, an13, cd13, ct13, sl13, rfl, L13, D13, .inr ⟨by simp, t13, _, [.none], tn13, rfl, T13, rfl, .cons rfl .nil⟩, .inl rfl⟩, K13⟩
  obtain ⟨ds13, vd13, b13⟩ := F13.binds1 (ps := ["self", "rows", "width"]) 3 1 (by simp) rfl fun _ _ _ _ _ _ _ us its hl hi => match us, hl, its, hi with | [_, _, _], _, [_], _ => ⟨_, rfl, rfl⟩
  obtain rfl : ds13 = [] := by cases vd13; rfl
  have F14 := fun_mk (st := s_Grid_eq) L14 D14 K14
  have b14 := F14.binds (ps := ["self", "other"]) fun _ _ _ _ _ _ us hl => match us, hl with | [_, _], _ => rfl
  have F15 := fun_mk (st := s_Grid_mul) L15 D15 K15
  have b15 := F15.binds (ps := ["self", "other"]) fun _ _ _ _ _ _ us hl => match us, hl with | [_, _], _ => rfl
  have F16 := fun_mk (st := s_Grid_transposed) L16 D16 K16
  have b16 := F16.binds (ps := ["self"]) fun _ _ _ _ _ _ us hl => match us, hl with | [_], _ => rfl
  have F17 := fun_mk (st := s_Grid_is_square) L17 D17 K17
  have b17 := F17.binds (ps := ["self"]) fun _ _ _ _ _ _ us hl => match us, hl with | [_], _ => rfl
  have F18 := fun_mk (st := s_Grid_determinant) L18 D18 K18
  have b18 := F18.binds (ps := ["self"]) fun _ _ _ _ _ _ us hl => match us, hl with | [_], _ => rfl
  have F19 := fun_mk (st := s_Grid_is_unimodular) L19 D19 K19
  have b19 := F19.binds (ps := ["self"]) fun _ _ _ _ _ _ us hl => match us, hl with | [_], _ => rfl
  have F20 := fun_mk (st := s_Grid_rank) L20 D20 K20
  have b20 := F20.binds (ps := ["self"]) fun _ _ _ _ _ _ us hl => match us, hl with | [_], _ => rfl
  have F21 := fun_mk (st := s_checked_rows) L21 D21 K21
  have b21 := F21.binds (ps := ["rows"]) fun _ _ _ _ _ _ us hl => match us, hl with | [_], _ => rfl
  have F22 := fun_mk (st := s_checked_width) L22 D22 K22
  have b22 := F22.binds (ps := ["rows", "width"]) fun _ _ _ _ _ _ us hl => match us, hl with | [_, _], _ => rfl
  have F23 := fun_mk (st := s_check_square) L23 D23 K23
  have b23 := F23.binds (ps := ["a"]) fun _ _ _ _ _ _ us hl => match us, hl with | [_], _ => rfl
  have F24 := fun_mk (st := s_Lattice_init) L24 D24 K24
  have b24 := F24.binds (ps := ["self", "gram"]) fun _ _ _ _ _ _ us hl => match us, hl with | [_, _], _ => rfl
  have F25 := fun_mk (st := s_Lattice_rank) L25 D25 K25
  have b25 := F25.binds (ps := ["self"]) fun _ _ _ _ _ _ us hl => match us, hl with | [_], _ => rfl
  have F26 := fun_mk (st := s_Lattice_determinant) L26 D26 K26
  have b26 := F26.binds (ps := ["self"]) fun _ _ _ _ _ _ us hl => match us, hl with | [_], _ => rfl
  have F27 := fun_mk (st := s_checked_gram) L27 D27 K27
  have b27 := F27.binds (ps := ["gram"]) fun _ _ _ _ _ _ us hl => match us, hl with | [_], _ => rfl
  have F28 := fun_mk (st := s_is_positive) L28 D28 K28
  have b28 := F28.binds (ps := ["rows"]) fun _ _ _ _ _ _ us hl => match us, hl with | [_], _ => rfl
  have F29 := fun_mk (st := s_is_parting) L29 D29 K29
  have b29 := F29.binds (ps := ["lattice", "grids"]) fun _ _ _ _ _ _ us hl => match us, hl with | [_, _], _ => rfl
  have F30 := fun_mk (st := s_is_orthogonal) L30 D30 K30
  have b30 := F30.binds (ps := ["gram", "one", "two"]) fun _ _ _ _ _ _ us hl => match us, hl with | [_, _, _], _ => rfl
  have F31 := fun_mk (st := s_law_state) L31 D31 K31
  have b31 := F31.binds (ps := ["script"]) fun _ _ _ _ _ _ us hl => match us, hl with | [_], _ => rfl
  have F32 := fun_mk (st := s_law_take) L32 D32 K32
  have b32 := F32.binds (ps := ["state", "m"]) fun _ _ _ _ _ _ us hl => match us, hl with | [_, _], _ => rfl
  have F33 := fun_mk (st := s_law_unimodular) L33 D33 K33
  have b33 := F33.binds (ps := ["state", "size"]) fun _ _ _ _ _ _ us hl => match us, hl with | [_, _], _ => rfl
  have F34 := fun_mk (st := s_law_product) L34 D34 K34
  have b34 := F34.binds (ps := ["gram", "v", "w"]) fun _ _ _ _ _ _ us hl => match us, hl with | [_, _, _], _ => rfl
  have F35 := fun_mk (st := s_law_moved) L35 D35 K35
  have b35 := F35.binds (ps := ["gram", "rows"]) fun _ _ _ _ _ _ us hl => match us, hl with | [_, _], _ => rfl
  have F36 := fun_mk (st := s_law_minor) L36 D36 K36
  have b36 := F36.binds (ps := ["rows", "i", "j"]) fun _ _ _ _ _ _ us hl => match us, hl with | [_, _, _], _ => rfl
  have F37 := fun_mk (st := s_law_determinant) L37 D37 K37
  have b37 := F37.binds (ps := ["rows"]) fun _ _ _ _ _ _ us hl => match us, hl with | [_], _ => rfl
  have F38 := fun_mk (st := s_law_blocks) L38 D38 K38
  have b38 := F38.binds (ps := ["state"]) fun _ _ _ _ _ _ us hl => match us, hl with | [_], _ => rfl
  have F39 := fun_mk (st := s_law_joined) L39 D39 K39
  have b39 := F39.binds (ps := ["blocks_v"]) fun _ _ _ _ _ _ us hl => match us, hl with | [_], _ => rfl
  have F40 := fun_mk (st := s_law_basis) L40 D40 K40
  have b40 := F40.binds (ps := ["state", "gram"]) fun _ _ _ _ _ _ us hl => match us, hl with | [_, _], _ => rfl
  have F41 := fun_mk (st := s_law_inverse) L41 D41 K41
  have b41 := F41.binds (ps := ["rows"]) fun _ _ _ _ _ _ us hl => match us, hl with | [_], _ => rfl
  have F42 := fun_mk (st := s_law_spoilt) L42 D42 K42
  have b42 := F42.binds (ps := ["lattice", "grids", "pick"]) fun _ _ _ _ _ _ us hl => match us, hl with | [_, _, _], _ => rfl
  have F43 := fun_mk (st := s_law) L43 D43 K43
  have b43 := F43.binds (ps := ["script"]) fun _ _ _ _ _ _ us hl => match us, hl with | [_], _ => rfl
  let T : Top K mg := { a_is_integer := f1, d_is_integer := _, F_is_integer := F1, b_is_integer := b1, g_is_integer := PySem.W.mg_of X G A1, a_cofactors := f2, d_cofactors := _, F_cofactors := F2, b_cofactors := b2, g_cofactors := PySem.W.mg_of X G A2, a_dot := f3, d_dot := _, F_dot := F3, b_dot := b3, g_dot := PySem.W.mg_of X G A3, a_hermite_rows := f4, d_hermite_rows := _, F_hermite_rows := F4, b_hermite_rows := b4, g_hermite_rows := PySem.W.mg_of X G A4, a_with_row := f5, d_with_row := _, F_with_row := F5, b_with_row := b5, g_with_row := PySem.W.mg_of X G A5, a_merged := f6, d_merged := _, F_merged := F6, b_merged := b6, g_merged := PySem.W.mg_of X G A6, a_mixed := f7, d_mixed := _, F_mixed := F7, b_mixed := b7, g_mixed := PySem.W.mg_of X G A7, a_tidied := f8, d_tidied := _, F_tidied := F8, b_tidied := b8, g_tidied := PySem.W.mg_of X G A8, a_reduced := f9, d_reduced := _, F_reduced := F9, b_reduced := b9, g_reduced := PySem.W.mg_of X G A9, a_determinant_of := f10, d_determinant_of := _, F_determinant_of := F10, b_determinant_of := b10, g_determinant_of := PySem.W.mg_of X G A10, a_first_with_head := f11, d_first_with_head := _, F_first_with_head := F11, b_first_with_head := b11, g_first_with_head := PySem.W.mg_of X G A11, a_cleared := f12, d_cleared := _, F_cleared := F12, b_cleared := b12, g_cleared := PySem.W.mg_of X G A12, a_Grid_init := f13, d_Grid_init := _, F_Grid_init := F13, b_Grid_init := b13, a_Grid_eq := f14, d_Grid_eq := _, F_Grid_eq := F14, b_Grid_eq := b14, m_Grid_eq := ⟨A14, I14, K14⟩, a_Grid_mul := f15, d_Grid_mul := _, F_Grid_mul := F15, b_Grid_mul := b15, m_Grid_mul := ⟨A15, I15, K15⟩, a_Grid_transposed := f16, d_Grid_transposed := _, F_Grid_transposed := F16, b_Grid_transposed := b16, m_Grid_transposed := ⟨A16, I16, K16⟩, a_Grid_is_square := f17, d_Grid_is_square := _, F_Grid_is_square := F17, b_Grid_is_square := b17, m_Grid_is_square := ⟨A17, I17, K17⟩, a_Grid_determinant := f18, d_Grid_determinant := _, F_Grid_determinant := F18, b_Grid_determinant := b18, m_Grid_determinant := ⟨A18, I18, K18⟩, a_Grid_is_unimodular := f19, d_Grid_is_unimodular := _, F_Grid_is_unimodular := F19, b_Grid_is_unimodular := b19, m_Grid_is_unimodular := ⟨A19, I19, K19⟩, a_Grid_rank := f20, d_Grid_rank := _, F_Grid_rank := F20, b_Grid_rank := b20, m_Grid_rank := ⟨A20, I20, K20⟩, a_checked_rows := f21, d_checked_rows := _, F_checked_rows := F21, b_checked_rows := b21, g_checked_rows := PySem.W.mg_of X G A21, a_checked_width := f22, d_checked_width := _, F_checked_width := F22, b_checked_width := b22, g_checked_width := PySem.W.mg_of X G A22, a_check_square := f23, d_check_square := _, F_check_square := F23, b_check_square := b23, g_check_square := PySem.W.mg_of X G A23, a_Lattice_init := f24, d_Lattice_init := _, F_Lattice_init := F24, b_Lattice_init := b24, a_Lattice_rank := f25, d_Lattice_rank := _, F_Lattice_rank := F25, b_Lattice_rank := b25, m_Lattice_rank := ⟨A25, I25, K25⟩, a_Lattice_determinant := f26, d_Lattice_determinant := _, F_Lattice_determinant := F26, b_Lattice_determinant := b26, m_Lattice_determinant := ⟨A26, I26, K26⟩, a_checked_gram := f27, d_checked_gram := _, F_checked_gram := F27, b_checked_gram := b27, g_checked_gram := PySem.W.mg_of X G A27, a_is_positive := f28, d_is_positive := _, F_is_positive := F28, b_is_positive := b28, g_is_positive := PySem.W.mg_of X G A28, a_is_parting := f29, d_is_parting := _, F_is_parting := F29, b_is_parting := b29, g_is_parting := PySem.W.mg_of X G A29, a_is_orthogonal := f30, d_is_orthogonal := _, F_is_orthogonal := F30, b_is_orthogonal := b30, g_is_orthogonal := PySem.W.mg_of X G A30, a_law_state := f31, d_law_state := _, F_law_state := F31, b_law_state := b31, g_law_state := PySem.W.mg_of X G A31, a_law_take := f32, d_law_take := _, F_law_take := F32, b_law_take := b32, g_law_take := PySem.W.mg_of X G A32, a_law_unimodular := f33, d_law_unimodular := _, F_law_unimodular := F33, b_law_unimodular := b33, g_law_unimodular := PySem.W.mg_of X G A33, a_law_product := f34, d_law_product := _, F_law_product := F34, b_law_product := b34, g_law_product := PySem.W.mg_of X G A34, a_law_moved := f35, d_law_moved := _, F_law_moved := F35, b_law_moved := b35, g_law_moved := PySem.W.mg_of X G A35, a_law_minor := f36, d_law_minor := _, F_law_minor := F36, b_law_minor := b36, g_law_minor := PySem.W.mg_of X G A36, a_law_determinant := f37, d_law_determinant := _, F_law_determinant := F37, b_law_determinant := b37, g_law_determinant := PySem.W.mg_of X G A37, a_law_blocks := f38, d_law_blocks := _, F_law_blocks := F38, b_law_blocks := b38, g_law_blocks := PySem.W.mg_of X G A38, a_law_joined := f39, d_law_joined := _, F_law_joined := F39, b_law_joined := b39, g_law_joined := PySem.W.mg_of X G A39, a_law_basis := f40, d_law_basis := _, F_law_basis := F40, b_law_basis := b40, g_law_basis := PySem.W.mg_of X G A40, a_law_inverse := f41, d_law_inverse := _, F_law_inverse := F41, b_law_inverse := b41, g_law_inverse := PySem.W.mg_of X G A41, a_law_spoilt := f42, d_law_spoilt := _, F_law_spoilt := F42, b_law_spoilt := b42, g_law_spoilt := PySem.W.mg_of X G A42, a_law := fa, d_law := _, F_law := F43, b_law := b43, g_law := PySem.W.mg_of X G A43, C_Grid := C_Grid, g_Grid := PySem.W.mg_of X G aC_Grid, cl_Grid := ⟨pg_Grid, hd_Grid, po_Grid, sa_Grid⟩, mk_Grid := ⟨mk_Grid, A13, I13, kc_Grid⟩, n_rows := nrows_Grid, n_width := nwidth_Grid, sf_Grid := sf_Grid, kc_Grid := yc_Grid, kg_Grid := yg_Grid, kt_Grid := yt_Grid, km_Grid := ym_Grid, ty_Grid := yt2_Grid, ic_Grid := yi_Grid, ne_Grid := yn_Grid, C_Lattice := C_Lattice, g_Lattice := PySem.W.mg_of X G aC_Lattice, cl_Lattice := ⟨pg_Lattice, hd_Lattice, po_Lattice, sa_Lattice⟩, mk_Lattice := ⟨mk_Lattice, A24, I24, kc_Lattice⟩, n_gram := ngram_Lattice, sf_Lattice := sf_Lattice, kc_Lattice := yc_Lattice, kg_Lattice := yg_Lattice, kt_Lattice := yt_Lattice, km_Lattice := ym_Lattice, ty_Lattice := yt2_Lattice, ic_Lattice := yi_Lattice, ne_Lattice := yn_Lattice, sub_GL := sub_GL, se_L := sX_L, sub_GT := sub_GT, g_MOST := PySem.W.mg_of X G c_MOST, k_MOST := tk_MOST, g_MOST_ROWS := PySem.W.mg_of X G c_MOST_ROWS, k_MOST_ROWS := tk_MOST_ROWS, z_ValueError := PySem.W.mg_none_of X G z_ValueError, z_abs := PySem.W.mg_none_of X G z_abs, z_all := PySem.W.mg_none_of X G z_all, z_any := PySem.W.mg_none_of X G z_any, z_bool := PySem.W.mg_none_of X G z_bool, z_dict := PySem.W.mg_none_of X G z_dict, z_enumerate := PySem.W.mg_none_of X G z_enumerate, z_int := PySem.W.mg_none_of X G z_int, z_isinstance := PySem.W.mg_none_of X G z_isinstance, z_len := PySem.W.mg_none_of X G z_len, z_list := PySem.W.mg_none_of X G z_list, z_max := PySem.W.mg_none_of X G z_max, z_range := PySem.W.mg_none_of X G z_range, z_sorted := PySem.W.mg_none_of X G z_sorted, z_sum := PySem.W.mg_none_of X G z_sum, z_tuple := PySem.W.mg_none_of X G z_tuple, z_zip := PySem.W.mg_none_of X G z_zip, X_Malformed := X_Malformed, gX_Malformed := PySem.W.mg_of X G aX_Malformed, xX_Malformed := xX_Malformed, kX_Malformed := kX_Malformed, bX_Malformed := bX_Malformed, tX_Malformed := tX_Malformed, iX_Malformed := iX_Malformed, sX_Malformed := sX_Malformed }
  exact ⟨PySem.W.fnOf "law" "law" (defArgs s_law) (defBody s_law) (defScope s_law) .none kV43 dc43 pm43 an43 cd43 ct43, fun s v => .of_eq rfl, fun base _ _ hN => ok_law (w := w) T hN hT⟩
end K39
open PySem PySem.W PyProof.Rows
set_option maxRecDepth 100000 in
set_option maxHeartbeats 16000000 in
theorem PySem.Challenge.cw_gridmetric_k39_partings_holds : PySem.Challenge.rw_gridmetric_k39_partings.Holds := by
  w_on; o_law; k_head; (case hw => w_witness2)
  k_fill
  refine Gm.walk_ofN (n := 63) (k := 48) (sp := K39.sp_law) (x := "script") rfl (by decide) rfl ⟨rfl, by decide, by decide⟩ (by decide +kernel) (fun w h Y => PySem.W.kIn_of Y) ?F ?S
  case F =>
    intro w mg fa h Y KX G hmg
    refine' K39.all_mk KX G hmg rfl ?A1 ?L1 ?D1 ?K1 ?A2 ?L2 ?D2 ?K2 ?A3 ?L3 ?D3 ?K3 ?A4 ?L4 ?D4 ?K4 ?A5 ?L5 ?D5 ?K5 ?A6 ?L6 ?D6 ?K6 ?A7 ?L7 ?D7 ?K7 ?A8 ?L8 ?D8 ?K8 ?A9 ?L9 ?D9 ?K9 ?A10 ?L10 ?D10 ?K10 ?A11 ?L11 ?D11 ?K11 ?A12 ?L12 ?D12 ?K12 ?A13 ?I13 ?L13 ?T13 ?D13 ?K13 ?A14 ?I14 ?L14 ?D14 ?K14 ?A15 ?I15 ?L15 ?D15 ?K15 ?A16 ?I16 ?L16 ?D16 ?K16 ?A17 ?I17 ?L17 ?D17 ?K17 ?A18 ?I18 ?L18 ?D18 ?K18 ?A19 ?I19 ?L19 ?D19 ?K19 ?A20 ?I20 ?L20 ?D20 ?K20 ?A21 ?L21 ?D21 ?K21 ?A22 ?L22 ?D22 ?K22 ?A23 ?L23 ?D23 ?K23 ?A24 ?I24 ?L24 ?D24 ?K24 ?A25 ?I25 ?L25 ?D25 ?K25 ?A26 ?I26 ?L26 ?D26 ?K26 ?A27 ?L27 ?D27 ?K27 ?A28 ?L28 ?D28 ?K28 ?A29 ?L29 ?D29 ?K29 ?A30 ?L30 ?D30 ?K30 ?A31 ?L31 ?D31 ?K31 ?A32 ?L32 ?D32 ?K32 ?A33 ?L33 ?D33 ?K33 ?A34 ?L34 ?D34 ?K34 ?A35 ?L35 ?D35 ?K35 ?A36 ?L36 ?D36 ?K36 ?A37 ?L37 ?D37 ?K37 ?A38 ?L38 ?D38 ?K38 ?A39 ?L39 ?D39 ?K39 ?A40 ?L40 ?D40 ?K40 ?A41 ?L41 ?D41 ?K41 ?A42 ?L42 ?D42 ?K42 ?A43 ?L43 ?D43 ?K43 ?aC_Grid ?pg_Grid ?hd_Grid ?po_Grid ?sa_Grid ?mk_Grid ?kc_Grid ?nrows_Grid ?nwidth_Grid ?sf_Grid ?yc_Grid ?yg_Grid ?yt_Grid ?ym_Grid ?yt2_Grid ?yi_Grid ?yn_Grid ?aC_Lattice ?pg_Lattice ?hd_Lattice ?po_Lattice ?sa_Lattice ?mk_Lattice ?kc_Lattice ?ngram_Lattice ?sf_Lattice ?yc_Lattice ?yg_Lattice ?yt_Lattice ?ym_Lattice ?yt2_Lattice ?yi_Lattice ?yn_Lattice ?sub_GL ?sX_L ?sub_GT ?c_MOST ?c_MOST_ROWS ?z_ValueError ?z_abs ?z_all ?z_any ?z_bool ?z_dict ?z_enumerate ?z_int ?z_isinstance ?z_len ?z_list ?z_max ?z_range ?z_sorted ?z_sum ?z_tuple ?z_zip ?aX_Malformed ?xX_Malformed ?kX_Malformed ?bX_Malformed ?tX_Malformed ?iX_Malformed ?sX_Malformed
    (case aC_Grid => k_is)
    (case aC_Lattice => k_is)
    (case aX_Malformed => k_is)
    (case A1 => k_is)
    (case L1 => k_is)
    (case D1 => k_is)
    (case K1 => k_is)
    (case A2 => k_is)
    (case L2 => k_is)
    (case D2 => k_is)
    (case K2 => k_is)
    (case A3 => k_is)
    (case L3 => k_is)
    (case D3 => k_is)
    (case K3 => k_is)
    (case A4 => k_is)
    (case L4 => k_is)
    (case D4 => k_is)
    (case K4 => k_is)
    (case A5 => k_is)
    (case L5 => k_is)
    (case D5 => k_is)
    (case K5 => k_is)
    (case A6 => k_is)
    (case L6 => k_is)
    (case D6 => k_is)
    (case K6 => k_is)
    (case A7 => k_is)
    (case L7 => k_is)
    (case D7 => k_is)
    (case K7 => k_is)
    (case A8 => k_is)
    (case L8 => k_is)
    (case D8 => k_is)
    (case K8 => k_is)
    (case A9 => k_is)
    (case L9 => k_is)
    (case D9 => k_is)
    (case K9 => k_is)
    (case A10 => k_is)
    (case L10 => k_is)
    (case D10 => k_is)
    (case K10 => k_is)
    (case A11 => k_is)
    (case L11 => k_is)
    (case D11 => k_is)
    (case K11 => k_is)
    (case A12 => k_is)
    (case L12 => k_is)
    (case D12 => k_is)
    (case K12 => k_is)
    (case A13 => k_is)
    (case I13 => k_is)
    (case L13 => k_is)
    (case T13 => k_is)
    (case D13 => k_is)
    (case K13 => k_is)
    (case A14 => k_is)
    (case I14 => k_is)
    (case L14 => k_is)
    (case D14 => k_is)
    (case K14 => k_is)
    (case A15 => k_is)
    (case I15 => k_is)
    (case L15 => k_is)
    (case D15 => k_is)
    (case K15 => k_is)
    (case A16 => k_is)
    (case I16 => k_is)
    (case L16 => k_is)
    (case D16 => k_is)
    (case K16 => k_is)
    (case A17 => k_is)
    (case I17 => k_is)
    (case L17 => k_is)
    (case D17 => k_is)
    (case K17 => k_is)
    (case A18 => k_is)
    (case I18 => k_is)
    (case L18 => k_is)
    (case D18 => k_is)
    (case K18 => k_is)
    (case A19 => k_is)
    (case I19 => k_is)
    (case L19 => k_is)
    (case D19 => k_is)
    (case K19 => k_is)
    (case A20 => k_is)
    (case I20 => k_is)
    (case L20 => k_is)
    (case D20 => k_is)
    (case K20 => k_is)
    (case A21 => k_is)
    (case L21 => k_is)
    (case D21 => k_is)
    (case K21 => k_is)
    (case A22 => k_is)
    (case L22 => k_is)
    (case D22 => k_is)
    (case K22 => k_is)
    (case A23 => k_is)
    (case L23 => k_is)
    (case D23 => k_is)
    (case K23 => k_is)
    (case A24 => k_is)
    (case I24 => k_is)
    (case L24 => k_is)
    (case D24 => k_is)
    (case K24 => k_is)
    (case A25 => k_is)
    (case I25 => k_is)
    (case L25 => k_is)
    (case D25 => k_is)
    (case K25 => k_is)
    (case A26 => k_is)
    (case I26 => k_is)
    (case L26 => k_is)
    (case D26 => k_is)
    (case K26 => k_is)
    (case A27 => k_is)
    (case L27 => k_is)
    (case D27 => k_is)
    (case K27 => k_is)
    (case A28 => k_is)
    (case L28 => k_is)
    (case D28 => k_is)
    (case K28 => k_is)
    (case A29 => k_is)
    (case L29 => k_is)
    (case D29 => k_is)
    (case K29 => k_is)
    (case A30 => k_is)
    (case L30 => k_is)
    (case D30 => k_is)
    (case K30 => k_is)
    (case A31 => k_is)
    (case L31 => k_is)
    (case D31 => k_is)
    (case K31 => k_is)
    (case A32 => k_is)
    (case L32 => k_is)
    (case D32 => k_is)
    (case K32 => k_is)
    (case A33 => k_is)
    (case L33 => k_is)
    (case D33 => k_is)
    (case K33 => k_is)
    (case A34 => k_is)
    (case L34 => k_is)
    (case D34 => k_is)
    (case K34 => k_is)
    (case A35 => k_is)
    (case L35 => k_is)
    (case D35 => k_is)
    (case K35 => k_is)
    (case A36 => k_is)
    (case L36 => k_is)
    (case D36 => k_is)
    (case K36 => k_is)
    (case A37 => k_is)
    (case L37 => k_is)
    (case D37 => k_is)
    (case K37 => k_is)
    (case A38 => k_is)
    (case L38 => k_is)
    (case D38 => k_is)
    (case K38 => k_is)
    (case A39 => k_is)
    (case L39 => k_is)
    (case D39 => k_is)
    (case K39 => k_is)
    (case A40 => k_is)
    (case L40 => k_is)
    (case D40 => k_is)
    (case K40 => k_is)
    (case A41 => k_is)
    (case L41 => k_is)
    (case D41 => k_is)
    (case K41 => k_is)
    (case A42 => k_is)
    (case L42 => k_is)
    (case D42 => k_is)
    (case K42 => k_is)
    (case A43 => k_is)
    (case L43 => k_is)
    (case D43 => k_is)
    (case K43 => k_is)
    (case pg_Grid => k_is)
    (case hd_Grid => k_is)
    (case po_Grid => k_is)
    (case sa_Grid => k_is)
    (case mk_Grid => k_is)
    (case kc_Grid => k_is)
    (case nrows_Grid => k_is)
    (case nwidth_Grid => k_is)
    (case sf_Grid => k_is)
    (case yc_Grid => k_is)
    (case yg_Grid => k_is)
    (case yt_Grid => k_is)
    (case ym_Grid => k_is)
    (case yt2_Grid => k_is)
    (case yi_Grid => k_is)
    (case yn_Grid => k_is)
    (case pg_Lattice => k_is)
    (case hd_Lattice => k_is)
    (case po_Lattice => k_is)
    (case sa_Lattice => k_is)
    (case mk_Lattice => k_is)
    (case kc_Lattice => k_is)
    (case ngram_Lattice => k_is)
    (case sf_Lattice => k_is)
    (case yc_Lattice => k_is)
    (case yg_Lattice => k_is)
    (case yt_Lattice => k_is)
    (case ym_Lattice => k_is)
    (case yt2_Lattice => k_is)
    (case yi_Lattice => k_is)
    (case yn_Lattice => k_is)
    (case sub_GL => k_is)
    (case sX_L => first | rfl | k_is)
    (case sub_GT => k_is)
    (case c_MOST => k_is)
    (case c_MOST_ROWS => k_is)
    (case z_ValueError => k_is)
    (case z_abs => k_is)
    (case z_all => k_is)
    (case z_any => k_is)
    (case z_bool => k_is)
    (case z_dict => k_is)
    (case z_enumerate => k_is)
    (case z_int => k_is)
    (case z_isinstance => k_is)
    (case z_len => k_is)
    (case z_list => k_is)
    (case z_max => k_is)
    (case z_range => k_is)
    (case z_sorted => k_is)
    (case z_sum => k_is)
    (case z_tuple => k_is)
    (case z_zip => k_is)
    (case xX_Malformed => k_exc)
    (case kX_Malformed => k_is)
    (case bX_Malformed => k_is)
    (case tX_Malformed => k_is)
    (case iX_Malformed => k_is)
    (case sX_Malformed => first | rfl | k_is)
  case S =>
    intro K H a ns hl hb hs
    exact ⟨a, ns, rfl, hs, hl, hb, fun _ => rfl⟩
